import PyProof.Rows.All
import Wide.All
import OpenK.AllK
import Wide.FinOn
import PyProof.EqAt
import PyProof.EqKinds
import PyProof.TupleCall
import KE.BitLaws
import KE.KNest
import PySem.Challenge.RW_sidedeeds_k33_whole_maps_put_together
-- CHANGE: your row's module here, as the last of these rows
set_option Elab.async false
set_option linter.all false
set_option maxRecDepth 100000
namespace L2
open PySem PySem.Spec PyProof.Rows
abbrev Key := Sum Int Str
def keyIs : Key → Value → Bool
  | .inl k, v => Value.isInt k v
  | .inr x, v => Value.isStrOf x v
def keyH (w : World) : Key → Int
  | .inl k => hashInt k
  | .inr x => hashStr w x
theorem keyIs_shape : ∀ {k : Key} {v : Value}, keyIs k v = true → (∃ i t, k = Sum.inl i ∧ v = Value.int i t) ∨ (∃ x t, k = Sum.inr x ∧ v = Value.str x t)
  | .inl i, v, h => by
    obtain ⟨t, e⟩ := Value.isInt_shape (k := i) (v := v) h
    exact .inl ⟨i, t, rfl, e⟩
  | .inr x, v, h => by
    obtain ⟨t, e⟩ := Value.isStrOf_shape (x := x) (v := v) h
    exact .inr ⟨x, t, rfl, e⟩
theorem keyIs_int (i : Int) (t : Tok) : keyIs (.inl i) (.int i t) = true := by simp [keyIs, Value.isInt]
theorem keyIs_str (x : Str) (t : Tok) : keyIs (.inr x) (.str x t) = true := by simp [keyIs, Value.isStrOf]
theorem key_ll (a b : Int) : decide ((Sum.inl a : Key) = Sum.inl b) = (a == b) := by
  by_cases e : a = b
  · subst e; simp
  · have h : ¬ (Sum.inl a : Key) = Sum.inl b := fun q => e (Sum.inl.inj q)
    rw [decide_eq_false h]
    exact (beq_eq_false_iff_ne.mpr e).symm
theorem key_rr (a b : Str) : decide ((Sum.inr a : Key) = Sum.inr b) = decide (a = b) := by
  by_cases e : a = b
  · subst e; simp
  · have h : ¬ (Sum.inr a : Key) = Sum.inr b := fun q => e (Sum.inr.inj q)
    rw [decide_eq_false h, decide_eq_false e]
theorem key_lr (a : Int) (b : Str) : decide ((Sum.inl a : Key) = Sum.inr b) = false := decide_eq_false (fun q => nomatch q)
theorem key_rl (a : Str) (b : Int) : decide ((Sum.inr a : Key) = Sum.inl b) = false := decide_eq_false (fun q => nomatch q)
def mixKind (prog : Program) (w : World) : PySem.KeyKind prog w Key where
  is := keyIs
  hash := keyH w
  inj := fun v a b ha hb => by
    rcases keyIs_shape ha with ⟨i, t, rfl, rfl⟩ | ⟨x, t, rfl, rfl⟩
    · rcases keyIs_shape hb with ⟨j, u, rfl, e⟩ | ⟨y, u, rfl, e⟩
      · injection e with e1 _; rw [e1]
      · exact nomatch e
    · rcases keyIs_shape hb with ⟨j, u, rfl, e⟩ | ⟨y, u, rfl, e⟩
      · exact nomatch e
      · injection e with e1 _; rw [e1]
  byValue := fun k v h => by
    rcases keyIs_shape h with ⟨i, t, rfl, rfl⟩ | ⟨x, t, rfl, rfl⟩ <;> rfl
  pyHash := fun hv h => by
    rcases keyIs_shape hv with ⟨i, t, rfl, rfl⟩ | ⟨x, t, rfl, rfl⟩
    · exact wpAny_pyHash_int h
    · exact wpAny_pyHash_str h
  eqBool := fun hu hv h => by
    rcases keyIs_shape hu with ⟨i, t, rfl, rfl⟩ | ⟨x, t, rfl, rfl⟩
    · rcases keyIs_shape hv with ⟨j, u, rfl, rfl⟩ | ⟨y, u, rfl, rfl⟩
      · rw [key_ll] at h; exact wpAny_eqBool_int h
      · rw [key_lr] at h; exact SeqAt.EqAt.int_str i t y u _ _ _ _ h
    · rcases keyIs_shape hv with ⟨j, u, rfl, rfl⟩ | ⟨y, u, rfl, rfl⟩
      · rw [key_rl] at h; exact SeqAt.EqAt.str_int x t j u _ _ _ _ h
      · rw [key_rr] at h; exact wpAny_eqBool_str h
  «strs» := fun k x t v h => by
    rcases keyIs_shape h with ⟨i, u, rfl, e⟩ | ⟨y, u, rfl, e⟩
    · exact nomatch e
    · injection e with e1 _
      subst e1
      cases v <;> rfl
theorem mixKind_int (prog : Program) (w : World) (i : Int) (t : Tok) : (mixKind prog w).is (.inl i) (.int i t) = true := keyIs_int i t
theorem mixKind_str (prog : Program) (w : World) (x : Str) (t : Tok) : (mixKind prog w).is (.inr x) (.str x t) = true := keyIs_str x t
end L2
namespace L2
open PySem PySem.Spec PyProof.Rows
inductive V where
  | non | bl (b : Bool) | int (i : Int) | str (x : Str) | byt (b : Array UInt8) | flt (b : UInt64) | ref (a : Addr) | ty (n : String)
  deriving DecidableEq
def RelV : V → Value → Prop
  | .non, u => u = Value.none
  | .bl b, u => u = Value.bool b
  | .int i, u => ∃ t, u = Value.int i t
  | .str x, u => ∃ t, u = Value.str x t
  | .byt b, u => ∃ t, u = Value.bytes b t
  | .flt b, u => ∃ t, u = Value.float b t
  | .ref a, u => u = Value.ref a
  | .ty n, u => u = Value.type n
abbrev Vals : List V → List Value → Prop := Paired RelV
theorem Vals.length {xs : List V} {us : List Value} (r : Vals xs us) : xs.length = us.length := Paired.length r
theorem Vals.get : ∀ {xs : List V} {us : List Value} {i : Nat} {x : V}, Vals xs us → xs[i]? = some x → ∃ u, us[i]? = some u ∧ RelV x u
  | _, _, _, _, .nil, e => by simp at e
  | _, _, 0, _, .cons r _, e => by simp at e; subst e; exact ⟨_, rfl, r⟩
  | _, _, i + 1, x, .cons _ t, e => by
    obtain ⟨u, h1, h2⟩ := Vals.get (i := i) (x := x) t (by simpa using e)
    exact ⟨u, by simpa using h1, h2⟩
theorem Vals.set {x : V} {u : Value} (r : RelV x u) : ∀ {xs : List V} {us : List Value} (i : Nat), Vals xs us → Vals (xs.set i x) (us.set i u)
  | _, _, _, .nil => .nil
  | _, _, 0, .cons _ t => .cons r t
  | _, _, i + 1, .cons q t => .cons q (Vals.set r i t)
theorem Vals.append : ∀ {xs ys : List V} {us ws : List Value}, Vals xs us → Vals ys ws → Vals (xs ++ ys) (us ++ ws)
  | _, _, _, _, .nil, s => s
  | _, _, _, _, .cons r t, s => .cons r (Vals.append t s)
theorem Vals.take : ∀ {xs : List V} {us : List Value} (n : Nat), Vals xs us → Vals (xs.take n) (us.take n)
  | _, _, 0, _ => .nil
  | _, _, _ + 1, .nil => .nil
  | _, _, n + 1, .cons r t => .cons r (Vals.take n t)
theorem Vals.drop : ∀ {xs : List V} {us : List Value} (n : Nat), Vals xs us → Vals (xs.drop n) (us.drop n)
  | _, _, 0, r => r
  | _, _, _ + 1, .nil => .nil
  | _, _, n + 1, .cons _ t => Vals.drop n t
def RelO : Option V → Option Value → Prop
  | some v, some u => RelV v u
  | none, none => True
  | _, _ => False
def KV {κ : Type} : List (κ × V) → List (κ × Value) → Prop := Paired fun (p : κ × V) (q : κ × Value) => p.1 = q.1 ∧ RelV p.2 q.2
def kV : Key → V
  | .inl i => .int i
  | .inr x => .str x
inductive HO where
  /-- a list -/
  | lst (xs : List V)
  /-- a tuple (never changes) -/
  | tup (xs : List V)
  /-- a dict whose keys are ints and texts; one whose keys are tuples of ints and texts (the empty one is both) -/
  | dK (kvs : List (Key × V)) | dT (kvs : List (List Key × V))
  /-- a set of ints: its members, its size -/
  | set (S : Int → Bool) (n : Nat)
  /-- an instance of the class at C, its dict at dx, its attributes -/
  | ins (C dx : Addr) (fs : List (Str × V))
  /-- the dict of the instance at x -/
  | own (x : Addr)
  /-- the dict of an exception -/
  | xd (fs : List (Str × V))
  /-- a bound method, f of x -/
  | met (f x : Addr)
  /-- a range object lo, lo + 1, .. below hi -/
  | rng (lo hi : Int)
  /-- a thing that is known to the object (the script; a dict while a loop walks it): read, never written while it is so -/
  | frz (o : Obj) (u : HO)
  /-- a code object's table -/
  | tbl (ps : Array Value)
  /-- any other thing, by what is true of its one object (a def of one's own: SetO a S n := HO.ext fun h => ..) -/
  | ext (φ : Heap → Prop)
abbrev Hp := Addr → Option HO
def upd (H : Hp) (a : Addr) (o : HO) : Hp := fun b => if b = a then some o else H b
theorem upd_same {H : Hp} {a : Addr} {o : HO} : upd H a o a = some o := by unfold upd; rw [if_pos rfl]
theorem upd_ne {H : Hp} {a b : Addr} {o : HO} (h : b ≠ a) : upd H a o b = H b := by unfold upd; rw [if_neg h]
theorem ne_of {H : Hp} {a b : Addr} {o u : HO} (h : H a = some o) (h' : H b = some u) (d : o ≠ u) : a ≠ b := by
  intro e; subst e; rw [h] at h'; exact d (Option.some.inj h')
theorem ne_of_none {H : Hp} {a b : Addr} {o : HO} (h : H a = some o) (h' : H b = none) : a ≠ b := by
  intro e; subst e; rw [h] at h'; cases h'
section
variable (P : Program) (w : World)
def IsTupD (h : Heap) (a : Addr) (items : Array Value) : Prop := ∃ o, h.get? a = some o ∧ o.cls = .type "tuple" ∧ ∃ n, o.data = .seq items n ∧ o.dict = none
theorem IsTupD.tup {h : Heap} {a : Addr} {items : Array Value} (x : IsTupD h a items) : IsTup h a items := let ⟨o, e, c, n, d, _⟩ := x; ⟨o, e, c, n, d⟩
theorem IsTupD.lt {h : Heap} {a : Addr} {items : Array Value} (x : IsTupD h a items) : a < h.objs.size := x.tup.lt
theorem IsTupD.new (h : Heap) (items : Array Value) : IsTupD (h.push { cls := .type "tuple", data := .seq items }) h.objs.size items := ⟨_, Heap.get?_push_size _ rfl, rfl, _, rfl, rfl⟩
def ObjOk (H : Hp) (h : Heap) (a : Addr) : HO → Prop
  | .lst xs => xs.length ≤ sizeLine ∧ ∃ (its : List Value) (n : Nat), Vals xs its ∧ h.get? a = some { cls := .type "list", data := .seq its.toArray n }
  | .tup xs => xs.length ≤ sizeLine ∧ ∃ its : List Value, Vals xs its ∧ IsTupD h a its.toArray
  | .dK kvs => kvs.length ≤ sizeLine ∧ (a == sysModules) = false ∧ ∃ vs, KV kvs vs ∧ h.DictOf (mixKind P w) a vs
  | .dT kvs => kvs.length ≤ sizeLine ∧ (a == sysModules) = false ∧ ∃ xs : List (List Key × Addr × Value),
      Paired (fun (p : List Key × V) (q : List Key × Addr × Value) => p.1 = q.1 ∧ H q.2.1 = some (.tup (p.1.map kV)) ∧ RelV p.2 q.2.2) kvs xs ∧
      ∃ o es ep, h.get? a = some o ∧ o.ExactDict ∧ o.data = .dict es ep ∧ es.toList = xs.map (entryOfKey (tupleKind (mixKind P w))) ∧ (xs.map (·.1)).Nodup
  | .set S n => h.SetOf (intKind P w) a S n
  | .ins C dx fs => H dx = some (.own a) ∧ fs.length ≤ 1000 ∧ dx ≠ a ∧ h.get? a = some (PySem.W.instObj C dx) ∧
      ∃ mA, h.Ns1 dx mA ∧ (∀ f, RelO (fs.lookup f) (mA f)) ∧ PySem.Within mA (fs.map (·.1))
  | .own _ => ∃ o, h.get? a = some o
  | .xd fs => ∃ mA, h.Ns1 a mA ∧ ∀ f, RelO (fs.lookup f) (mA f)
  | .rng lo hi => ∃ t u v, h.get? a = some { cls := .type "range", data := .fields #[.int lo t, .int hi u, .int 1 v] }
  | .frz o u => h.get? a = some o ∧ ObjOk H h a u
  | .tbl ps => h.get? a = some { cls := .none, data := .fields ps }
  | .met f x => h.get? a = some (PySem.W.methodObj (.ref f) (.ref x))
  | .ext φ => φ h ∧ (∃ o, h.get? a = some o) ∧ ∀ h1 h2 : Heap, φ h1 → (∀ o, h1.get? a = some o → h2.get? a = some o) → φ h2
def HOk (H : Hp) (h : Heap) : Prop := ∀ a o, H a = some o → ObjOk P w H h a o
end
section
variable {P : Program} {w : World} {H H' : Hp} {h h' : Heap} {a : Addr} {o : HO}
theorem ObjOk.lt (x : ObjOk P w H h a o) : a < h.objs.size := by
  cases o with
  | lst xs => obtain ⟨_, _, _, _, e⟩ := x; exact Heap.lt_size e
  | tup xs => obtain ⟨_, _, _, p⟩ := x; exact p.lt
  | dK kvs => obtain ⟨_, _, _, _, o, _, _, e, _⟩ := x; exact Heap.lt_size e
  | dT kvs => obtain ⟨_, _, _, _, o, _, _, e, _⟩ := x; exact Heap.lt_size e
  | set S n => obtain ⟨o, _, _, _, e, _⟩ := x; exact Heap.lt_size e
  | ins C dx fs => obtain ⟨_, _, _, e, _⟩ := x; exact Heap.lt_size e
  | own y => obtain ⟨_, e⟩ := x; exact Heap.lt_size e
  | xd fs => obtain ⟨_, ⟨_, _, _, e, _⟩, _⟩ := x; exact Heap.lt_size e
  | rng lo hi => obtain ⟨_, _, _, e⟩ := x; exact Heap.lt_size e
  | frz ob u => obtain ⟨e, _⟩ := x; exact Heap.lt_size e
  | tbl ps => exact Heap.lt_size (show h.get? a = some _ from x)
  | met f y => exact Heap.lt_size (show h.get? a = some _ from x)
  | ext φ => obtain ⟨_, ⟨_, e⟩, _⟩ := x; exact Heap.lt_size e
theorem Paired.mapP {α β : Type} {F G : α → β → Prop} : ∀ {l₁ : List α} {l₂ : List β}, Paired F l₁ l₂ → (∀ a b, F a b → G a b) → Paired G l₁ l₂
  | _, _, .nil, _ => .nil
  | _, _, .cons r t, f => .cons (f _ _ r) (Paired.mapP t f)
theorem ObjOk.stay (x : ObjOk P w H h a o) (k : ∀ b u, (b = a ∨ H b = some (.own a)) → h.get? b = some u → h'.get? b = some u)
    (ho : ∀ b, H b = some (.own a) → H' b = some (.own a)) (ht : ∀ b xs, H b = some (.tup xs) → H' b = some (.tup xs)) : ObjOk P w H' h' a o := by
  induction o with
  | lst xs => obtain ⟨z, its, n, r, e⟩ := x; exact ⟨z, its, n, r, k _ _ (.inl rfl) e⟩
  | tup xs => obtain ⟨z, its, r, ob, e, c⟩ := x; exact ⟨z, its, r, ob, k _ _ (.inl rfl) e, c⟩
  | dK kvs => obtain ⟨z, y, vs, r, ob, es, ep, e, c⟩ := x; exact ⟨z, y, vs, r, ob, es, ep, k _ _ (.inl rfl) e, c⟩
  | dT kvs =>
    obtain ⟨z, y, xs, r, ob, es, ep, e, c⟩ := x
    exact ⟨z, y, xs, Paired.mapP r fun p q z => ⟨z.1, ht _ _ z.2.1, z.2.2⟩, ob, es, ep, k _ _ (.inl rfl) e, c⟩
  | set S n => obtain ⟨ob, es, ep, t, e, c⟩ := x; exact ⟨ob, es, ep, t, k _ _ (.inl rfl) e, c⟩
  | ins C dx fs =>
    obtain ⟨d, z, ne, e, mA, ⟨od, es, ep, e2, c⟩, r⟩ := x
    exact ⟨ho _ d, z, ne, k _ _ (.inl rfl) e, mA, ⟨od, es, ep, k _ _ (.inr d) e2, c⟩, r⟩
  | own y => obtain ⟨ob, e⟩ := x; exact ⟨ob, k _ _ (.inl rfl) e⟩
  | xd fs => obtain ⟨mA, ⟨od, es, ep, e, c⟩, r⟩ := x; exact ⟨mA, ⟨od, es, ep, k _ _ (.inl rfl) e, c⟩, r⟩
  | rng lo hi => obtain ⟨t, u, v, e⟩ := x; exact ⟨t, u, v, k _ _ (.inl rfl) e⟩
  | frz ob u ih => obtain ⟨e, q⟩ := x; exact ⟨k _ _ (.inl rfl) e, ih q⟩
  | tbl ps =>
    have e : h.get? a = some { cls := .none, data := .fields ps } := x
    show h'.get? a = some { cls := .none, data := .fields ps }
    exact k a _ (.inl rfl) e
  | met f y =>
    have e : h.get? a = some (PySem.W.methodObj (.ref f) (.ref y)) := x
    show h'.get? a = some (PySem.W.methodObj (.ref f) (.ref y))
    exact k a _ (.inl rfl) e
  | ext φ => obtain ⟨p, ⟨o, e⟩, st⟩ := x; exact ⟨st _ _ p fun o q => k _ _ (.inl rfl) q, ⟨o, k _ _ (.inl rfl) e⟩, st⟩
theorem HOk.lt (x : HOk P w H h) (e : H a = some o) : a < h.objs.size := (x a o e).lt
theorem HOk.fresh (x : HOk P w H h) (e : h.objs.size ≤ a) : H a = none := by
  cases q : H a with
  | none => rfl
  | some u => exact absurd (Nat.lt_of_lt_of_le (x.lt q) e) (Nat.lt_irrefl _)
theorem HOk.kept (x : HOk P w H h) (k : ∀ b u, h.get? b = some u → h'.get? b = some u) : HOk P w H h' := fun a o e =>
  (x a o e).stay (fun b u _ q => k b u q) (fun _ q => q) fun _ _ q => q
theorem HOk.laid (x : HOk P w H h) (k : ∀ b u, h.get? b = some u → h'.get? b = some u) (hp : h.objs.size ≤ a) (new : ObjOk P w (upd H a o) h' a o) : HOk P w (upd H a o) h' := fun b u e => by
  have hn := x.fresh hp
  by_cases hb : b = a
  · subst hb; rw [upd_same] at e; cases e; exact new
  · rw [upd_ne hb] at e
    exact (x b u e).stay (fun c v _ q => k c v q) (fun c q => by rw [upd_ne (ne_of_none q hn)]; exact q) fun c xs q => by rw [upd_ne (ne_of_none q hn)]; exact q
end
def Rd (H : Hp) (a : Addr) (u : HO) : Prop := H a = some u ∨ ∃ o, H a = some (.frz o u)
theorem Rd.of {H : Hp} {a : Addr} {u : HO} (h : H a = some u) : Rd H a u := .inl h
theorem Rd.ok {P : Program} {w : World} {H : Hp} {h : Heap} {a : Addr} {u : HO} (r : Rd H a u) (x : HOk P w H h) : ObjOk P w H h a u := by
  rcases r with r | ⟨o, r⟩
  · exact x a u r
  · obtain ⟨_, q⟩ := x a _ r
    exact q
def Mut : Option HO → Prop
  | some (.lst _) => True
  | some (.dK _) => True
  | some (.dT _) => True
  | some (.set _ _) => True
  | some (.ins _ _ _) => True
  | some (.ext _) => True
  | _ => False
section
variable {P : Program} {w : World} {H : Hp} {h h' : Heap} {x e : Addr} {o' : HO}
theorem HOk.write (ok : HOk P w H h) (mu : Mut (H x)) (he : e = x ∨ H e = some (.own x)) (k : ∀ b u, b ≠ e → h.get? b = some u → h'.get? b = some u) (heo : ∃ u, h'.get? e = some u)
    (new : ObjOk P w (upd H x o') h' x o') : HOk P w (upd H x o') h' := fun b u q => by
  have nown : ∀ c y, H c = some (.own y) → c ≠ x := fun c y r z => by subst z; rw [r] at mu; exact mu
  have ntup : ∀ c xs, H c = some (.tup xs) → c ≠ x := fun c xs r z => by subst z; rw [r] at mu; exact mu
  by_cases hb : b = x
  · subst hb; rw [upd_same] at q; cases q; exact new
  · rw [upd_ne hb] at q
    by_cases hbe : b = e
    · have q' : H b = some (.own x) := by
        rcases he with z | z
        · exact absurd (hbe.trans z) hb
        · rw [hbe]; exact z
      rw [q] at q'; cases q'
      obtain ⟨v, hv⟩ := heo
      exact ⟨v, by rw [hbe]; exact hv⟩
    · refine (ok b u q).stay (fun c v hc r => k c v ?_ r) (fun c r => by rw [upd_ne (nown c b r)]; exact r) fun c xs r => by rw [upd_ne (ntup c xs r)]; exact r
      rcases hc with rfl | hc
      · exact hbe
      · rintro rfl
        rcases he with z | z
        · exact nown c b hc z
        · rw [hc] at z; cases z; exact hb rfl
end
structure Un (fs ex : List Addr) (H H' : Hp) (h h' : Heap) : Prop where
  keep : ∀ b o, h.get? b = some o → H b = none → b ∉ fs → b ∉ ex → h'.get? b = some o
  slot : ∀ b o, h.get? b = some o → H b = none → b ∈ fs → b ∉ ex → ∃ sl, h'.get? b = some { o with slots := sl }
  free : ∀ b o, h.get? b = some o → H b = none → b ∉ ex → H' b = none
  there : ∀ b o, h.get? b = some o → b ∉ ex → ∃ o', h'.get? b = some o'
  tups : ∀ b xs, H b = some (.tup xs) → H' b = some (.tup xs)
  frzs : ∀ b o u, H b = some (.frz o u) → H' b = some (.frz o u)
  tbls : ∀ b ps, H b = some (.tbl ps) → ∃ more, H' b = some (.tbl (ps ++ more))
section
variable {fs fs' ex ex' : List Addr} {H H1 H2 : Hp} {h h1 h2 h' : Heap} {a x e : Addr} {o : HO}
theorem Un.any (u : Un fs ex H H1 h h1) {b : Addr} {ob : Obj} (q : h.get? b = some ob) (n : H b = none) (hx : b ∉ ex) : ∃ sl, h1.get? b = some { ob with slots := sl } := by
  by_cases hb : b ∈ fs
  · exact u.slot b ob q n hb hx
  · exact ⟨ob.slots, u.keep b ob q n hb hx⟩
theorem Un.trans (a : Un fs ex H H1 h h1) (b : Un fs ex H1 H2 h1 h2) : Un fs ex H H2 h h2 where
  keep := fun c ob q n hc hx => b.keep c ob (a.keep c ob q n hc hx) (a.free c ob q n hx) hc hx
  slot := fun c ob q n hc hx => by
    obtain ⟨sl, e1⟩ := a.slot c ob q n hc hx
    obtain ⟨sl', e2⟩ := b.slot c _ e1 (a.free c ob q n hx) hc hx
    exact ⟨sl', e2⟩
  free := fun c ob q n hx => by
    obtain ⟨o', e1⟩ := a.there c ob q hx
    exact b.free c o' e1 (a.free c ob q n hx) hx
  there := fun c ob q hx => by
    obtain ⟨o', e1⟩ := a.there c ob q hx
    exact b.there c o' e1 hx
  tups := fun c xs q => b.tups c xs (a.tups c xs q)
  frzs := fun c ob xs q => b.frzs c ob xs (a.frzs c ob xs q)
  tbls := fun c ps q => by
    obtain ⟨m1, e1⟩ := a.tbls c ps q
    obtain ⟨m2, e2⟩ := b.tbls c _ e1
    exact ⟨m1 ++ m2, by rw [e2, Array.append_assoc]⟩
theorem Un.kept (k : ∀ b u, h.get? b = some u → h'.get? b = some u) : Un fs ex H H h h' :=
  ⟨fun b ob q _ _ _ => k b ob q, fun b ob q _ _ _ => ⟨ob.slots, k b ob q⟩, fun _ _ _ n _ => n, fun b ob q _ => ⟨ob, k b ob q⟩, fun _ _ q => q, fun _ _ _ q => q, fun _ ps q => ⟨#[], by rw [q]; simp⟩⟩
theorem Un.refl : Un fs ex H H h h := Un.kept fun _ _ q => q
theorem Un.laid (k : ∀ b u, h.get? b = some u → h'.get? b = some u) (hp : h.objs.size ≤ a) (hn : H a = none) : Un fs ex H (upd H a o) h h' where
  keep := fun b u q _ _ _ => k b u q
  slot := fun b u q _ _ _ => ⟨u.slots, k b u q⟩
  free := fun b u q n _ => by rw [upd_ne (Nat.ne_of_lt (Nat.lt_of_lt_of_le (Heap.lt_size q) hp))]; exact n
  there := fun b u q _ => ⟨u, k b u q⟩
  tups := fun b xs q => by rw [upd_ne (ne_of_none q hn)]; exact q
  frzs := fun b u xs q => by rw [upd_ne (ne_of_none q hn)]; exact q
  tbls := fun b ps q => ⟨#[], by rw [upd_ne (ne_of_none q hn), q]; simp⟩
theorem Un.write (mu : Mut (H x)) (he : e = x ∨ H e = some (.own x)) (k : ∀ b u, b ≠ e → h.get? b = some u → h'.get? b = some u) (heo : ∃ u, h'.get? e = some u) : Un fs ex H (upd H x o) h h' := by
  have hx : ∀ b, H b = none → b ≠ x := fun b n z => by subst z; rw [n] at mu; exact mu
  have hb : ∀ b, H b = none → b ≠ e := fun b n z => by
    subst z
    rcases he with r | r
    · exact hx b n r
    · rw [n] at r; cases r
  have hm : ∀ b u, H b = some u → ¬ Mut (some u) → b ≠ x := fun b u q nm z => by subst z; rw [q] at mu; exact nm mu
  refine ⟨fun b u q n _ _ => k b u (hb b n) q, fun b u q n _ _ => ⟨u.slots, k b u (hb b n) q⟩, fun b u q n _ => by rw [upd_ne (hx b n)]; exact n, fun b u q _ => ?_,
    fun b xs q => by rw [upd_ne (hm b _ q fun z => z)]; exact q, fun b u xs q => by rw [upd_ne (hm b _ q fun z => z)]; exact q, fun b ps q => ⟨#[], by rw [upd_ne (hm b _ q fun z => z), q]; simp⟩⟩
  by_cases hbe : b = e
  · subst hbe; exact heo
  · exact ⟨u, k b u hbe q⟩
theorem Un.mono (u : Un fs ex H H1 h h1) (hs : ∀ b ∈ fs, b ∈ fs') (hx : ∀ b ∈ ex, b ∈ ex') : Un fs' ex' H H1 h h1 :=
  ⟨fun b ob q n hb he => u.keep b ob q n (fun z => hb (hs b z)) fun z => he (hx b z), fun _ _ q n _ he => u.any q n fun z => he (hx _ z), fun b ob q n he => u.free b ob q n fun z => he (hx b z), fun b ob q he => u.there b ob q fun z => he (hx b z), u.tups, u.frzs, u.tbls⟩
end
def trk (h : Heap) (H : Hp) : List Addr := (List.range h.objs.size).filter fun a => (H a).isSome
def hidT (h : Heap) (H : Hp) : Heap := PySem.W.hideAll h (trk h H)
theorem hidT_size (h : Heap) (H : Hp) : (hidT h H).objs.size = h.objs.size := PySem.W.hideAll_size _ _
theorem hidT_get {h : Heap} {H : Hp} {b : Addr} {o : Obj} (e : h.get? b = some o) (n : H b = none) : (hidT h H).get? b = some o :=
  PySem.W.hideAll_get _ e fun hm => by
    have q : (H b).isSome = true := (List.mem_filter.mp hm).2
    rw [n] at q; simp at q
theorem of_hidT {h : Heap} {H : Hp} {b : Addr} {o : Obj} (e : (hidT h H).get? b = some o) : h.get? b = some o ∧ H b = none := by
  have e' : h.get? b = some o := PySem.W.of_hideAll (trk h H) e
  refine ⟨e', ?_⟩
  cases q : H b with
  | none => rfl
  | some x =>
    have hm : b ∈ trk h H := List.mem_filter.mpr ⟨List.mem_range.mpr (Heap.lt_size e'), by simp [q]⟩
    have z : (hidT h H).get? b = none := PySem.W.hideAll_none (trk h H) hm
    rw [z] at e; cases e
def allNews (g h : Heap) (L : Addr) : List (Addr × Obj) := (List.range h.objs.size).filterMap fun a => if a = L ∨ (g.get? a).isSome = true then none else (h.get? a).map fun o => (a, o)
def rest (g h : Heap) (L d : Addr) : List (Addr × Obj) := (allNews g h L).filter fun p => decide (p.1 ≠ d)
end L2
namespace L2
open PySem PySem.Spec PyProof.Rows
structure Mod (K : PySem.W.Frag) (mg : Str → Option Value) (base : Heap) : Prop where
  kin : K.In base
  glob : base.Ns mainGlobals mg
  blt : ∃ mb, base.Ns builtinsNs mb ∧ ∀ x : Str, x ≠ "__name__" → mb x = bootBuiltins x
  nolimit : base.NoLimit
structure Cx where
  prog : Program
  w : World
  K : PySem.W.Frag
  mg : Str → Option Value
  base : Heap
  A : Around
  N : List Str
  s_0 : Shared
  H_0 : Hp
  env : Env
  outer : List Env
  stack : List Env
  ex : List Addr
  fn : Str → Bool
  calm : Bool
  pn : List (Addr × Obj)
  xe : Value → Shared → Prop
def frs (l : List Env) : List Addr := l.filterMap (·.frame)
abbrev Cx.fs (X : Cx) : List Addr := frs X.outer
def Vis (sc : Scope) (x : Str) : Prop := sc.names.lookup x = some .local ∨ sc.names.lookup x = some .cell ∨ sc.names.lookup x = some .free
def Loc (sc : Scope) (x : Str) : Prop := sc.names.lookup x = some .local ∨ sc.names.lookup x = some .cell
def Look (env : Env) (h : Heap) (m : Str → Option Value) (x : Str) (u : Value) : Prop :=
  (env.kindOf x = some .local ∧ m x = some u) ∨ ((env.kindOf x = some .cell ∨ env.kindOf x = some .free) ∧ ∃ c, env.cells.lookup x = some c ∧ h.IsCell c (some u))
structure Cx.Ok (X : Cx) : Prop where
  mod : Mod X.K X.mg X.base
  kind : X.env.scope.kind = .function
  glob : X.env.globals = mainGlobals
  blt : X.env.builtins = builtinsNs
  above : X.s_0.heap.objs.size ≤ X.env.locals
  inj : ∀ x y c, X.env.cells.lookup x = some c → X.env.cells.lookup y = some c → x = y
  has : ∀ x, (X.env.kindOf x = some .cell ∨ X.env.kindOf x = some .free) → ∃ c, X.env.cells.lookup x = some c
  cab : ∀ x c, X.fn x = true → X.env.cells.lookup x = some c → X.s_0.heap.objs.size ≤ c
  hd : X.calm = true → X.A.handled = none
  frames : X.A.frames = some X.stack
  stk : X.stack = X.outer ∨ (X.stack = X.env :: X.outer ∧ X.env.frame = some X.env.locals)
  exf : ∀ b ∈ X.ex, b ≠ X.env.locals ∧ ∀ x c, X.env.cells.lookup x = some c → c ≠ b
  bs : ∀ b o, X.base.get? b = some o → X.s_0.heap.get? b = some o ∧ X.H_0 b = none
  bsz : X.base.objs.size ≤ X.s_0.heap.objs.size
  noex : ∀ b o, X.base.get? b = some o → b ∉ X.ex
  exfs : ∀ b ∈ X.ex, b ∉ X.fs
  funs : X.s_0.heap.FunFrames X.base X.outer
  frf : ∀ b ∈ X.fs, X.H_0 b = none
structure Inv (X : Cx) (pins : List (Addr × Obj)) (σ : List (Option V)) (H : Hp) (s : Shared) : Prop where
  ok : X.Ok
  os : s.os = X.s_0.os
  bare : AllBare s.gens
  base : Un X.fs X.ex X.H_0 H X.s_0.heap s.heap
  loc : ∃ m, s.heap.Ns X.env.locals m ∧ ∀ (i : Nat) (x : Str) (v : V), X.N[i]? = some x → σ[i]? = some (some v) → Vis X.env.scope x → ∃ u, RelV v u ∧ Look X.env s.heap m x u
  cell : ∀ x c, X.env.cells.lookup x = some c → ∃ v, s.heap.IsCell c v
  free : H X.env.locals = none
  freeC : ∀ x c, X.env.cells.lookup x = some c → H c = none
  pin : ∀ p ∈ X.pn ++ pins, s.heap.get? p.1 = some p.2 ∧ H p.1 = none ∧ p.1 ≠ X.env.locals ∧ p.1 ∉ X.fs ∧ ∀ v, p.2.data ≠ .cell v
  hok : HOk X.prog X.w H s.heap
  len : σ.length = X.N.length
section
variable {X : Cx} {pins : List (Addr × Obj)} {σ : List (Option V)} {H H' : Hp} {s : Shared} {h' : Heap}
theorem Cx.Ok.nofr (ok : X.Ok) {b : Addr} {o : Obj} (e : X.base.get? b = some o) : b ∉ X.fs := fun hb => by
  have := (ok.funs.mem hb).1
  rw [e] at this; cases this
theorem Inv.bs (I : Inv X pins σ H s) : ∀ b o, X.base.get? b = some o → s.heap.get? b = some o ∧ H b = none := fun b o e =>
  ⟨I.base.keep b o (I.ok.bs b o e).1 (I.ok.bs b o e).2 (I.ok.nofr e) (I.ok.noex b o e), I.base.free b o (I.ok.bs b o e).1 (I.ok.bs b o e).2 (I.ok.noex b o e)⟩
theorem Inv.bk (I : Inv X pins σ H s) : ∀ b o, X.base.get? b = some o → s.heap.get? b = some o := fun b o e => (I.bs b o e).1
theorem Inv.mod (I : Inv X pins σ H s) : Mod X.K X.mg X.base := I.ok.mod
theorem Inv.kIn (I : Inv X pins σ H s) : X.K.In s.heap := I.ok.mod.kin.keeps I.bk
theorem Inv.nolimit (I : Inv X pins σ H s) : s.heap.NoLimit := I.ok.mod.nolimit.keeps I.bk
theorem Inv.fr (I : Inv X pins σ H s) : ∃ m, Fr X.base X.env.locals s.heap m :=
  let ⟨m, hn, _⟩ := I.loc
  ⟨m, hn, I.bk, Nat.le_trans I.ok.bsz I.ok.above⟩
theorem Inv.lt (I : Inv X pins σ H s) : X.env.locals < s.heap.objs.size := let ⟨_, hn, _⟩ := I.loc; hn.lt
theorem Inv.sz (I : Inv X pins σ H s) : X.s_0.heap.objs.size ≤ s.heap.objs.size := Nat.le_trans I.ok.above (Nat.le_of_lt I.lt)
theorem Inv.nofs (I : Inv X pins σ H s) {a : Addr} (h : s.heap.objs.size ≤ a) : a ∉ X.fs := fun hb => by
  obtain ⟨_, o, ho, _⟩ := I.ok.funs.mem hb
  exact absurd (Nat.lt_of_lt_of_le (Heap.lt_size ho) (Nat.le_trans I.sz h)) (Nat.lt_irrefl _)
theorem Inv.cne (I : Inv X pins σ H s) : ∀ x c, X.env.cells.lookup x = some c → c ≠ X.env.locals := fun x c e z => by
  obtain ⟨v, o, ho, hd⟩ := I.cell x c e
  obtain ⟨m, ⟨o', es, ep, ho', hd', _⟩, _⟩ := I.loc
  rw [z, ho'] at ho; cases ho; rw [hd'] at hd; cases hd
theorem Inv.funs (I : Inv X pins σ H s) : s.heap.FunFrames X.base X.outer := by
  have all : ∀ (l : List Env), (∀ b ∈ frs l, b ∈ X.fs) → X.s_0.heap.FunFrames X.base l → s.heap.FunFrames X.base l := by
    intro l
    induction l with
    | nil => intro _ _; trivial
    | cons env r ih =>
      intro hs hl
      obtain ⟨hk, ⟨L, o, hf, hn, ho, hd⟩, hr⟩ := hl
      have hL : L ∈ X.fs := hs L (by unfold frs; rw [List.filterMap_cons, hf]; exact List.mem_cons_self)
      obtain ⟨sl, e⟩ := I.base.slot L o ho (I.ok.frf L hL) hL fun z => I.ok.exfs L z hL
      exact ⟨hk, ⟨L, _, hf, hn, e, hd⟩, ih (fun b hb => hs b (by unfold frs; rw [List.filterMap_cons, hf]; exact List.mem_cons_of_mem _ hb)) hr⟩
  exact all X.outer (fun _ hb => hb) I.ok.funs
theorem Inv.stack (I : Inv X pins σ H s) : s.heap.FunFrames X.base X.stack := by
  rcases I.ok.stk with e | ⟨e, hf⟩
  · rw [e]; exact I.funs
  · rw [e]
    obtain ⟨m, hn, _⟩ := I.loc
    refine .cons (by rw [I.ok.kind]; decide) hf hn ?_ I.funs
    exact Heap.get?_none_of_le (Nat.le_trans I.ok.bsz I.ok.above)
theorem Inv.stkSub (I : Inv X pins σ H s) : ∀ b ∈ frs X.stack, b ∈ X.env.locals :: X.fs := fun b hb => by
  rcases I.ok.stk with e | ⟨e, hf⟩
  · rw [e] at hb; exact List.mem_cons_of_mem _ hb
  · rw [e] at hb
    unfold frs at hb
    rw [List.filterMap_cons, hf] at hb
    exact hb
theorem Inv.stkFree (I : Inv X pins σ H s) : ∀ b ∈ frs X.stack, H b = none := fun b hb => by
  rcases List.mem_cons.mp (I.stkSub b hb) with e | hb
  · rw [e]; exact I.free
  · obtain ⟨_, o, ho, _⟩ := I.ok.funs.mem hb
    exact I.base.free b o ho (I.ok.frf b hb) fun z => I.ok.exfs b z hb
theorem Inv.step {g' : Array GenState} {t' : Nat} {d' : Drawn} {ch : List Addr} (I : Inv X pins σ H s)
    (hch : ∀ b ∈ ch, (b ∈ X.ex ∨ X.s_0.heap.objs.size ≤ b) ∧ b ≠ X.env.locals ∧ (∀ x c, X.env.cells.lookup x = some c → c ≠ b) ∧ ∀ p ∈ X.pn ++ pins, p.1 ≠ b)
    (keep : ∀ b o, b ≠ X.env.locals → b ∉ X.fs → b ∉ ch → s.heap.get? b = some o → H b = none → h'.get? b = some o)
    (slot : ∀ b o, b ≠ X.env.locals → b ∈ X.fs → b ∉ ch → s.heap.get? b = some o → H b = none → ∃ sl, h'.get? b = some { o with slots := sl }) (free : ∀ b o, b ∉ ch → s.heap.get? b = some o → H b = none → H' b = none)
    (there : ∀ b o, b ∉ ch → s.heap.get? b = some o → ∃ o', h'.get? b = some o')
    (tups : ∀ b xs, H b = some (.tup xs) → H' b = some (.tup xs)) (frzs : ∀ b o u, H b = some (.frz o u) → H' b = some (.frz o u)) (tbls : ∀ b ps, H b = some (.tbl ps) → ∃ more, H' b = some (.tbl (ps ++ more)))
    (ns : ∀ m, s.heap.Ns X.env.locals m → h'.Ns X.env.locals m) (hok : HOk X.prog X.w H' h') (hg : AllBare g') :
    Inv X pins σ H' { s with heap := h', gens := g', drawn := d', toks := t' } := by
  have neL : ∀ b o, X.s_0.heap.get? b = some o → b ≠ X.env.locals := fun b o e => Nat.ne_of_lt (Nat.lt_of_lt_of_le (Heap.lt_size e) I.ok.above)
  have neC : ∀ b o, X.s_0.heap.get? b = some o → b ∉ X.ex → b ∉ ch := fun b o e hx hb => by
    rcases (hch b hb).1 with z | z
    · exact hx z
    · exact absurd (Nat.lt_of_lt_of_le (Heap.lt_size e) z) (Nat.lt_irrefl _)
  have cellK : ∀ x c, X.env.cells.lookup x = some c → ∀ v, s.heap.IsCell c v → h'.IsCell c v := fun x c e v ⟨o, ho, hd⟩ => by
    have nch : c ∉ ch := fun z => (hch c z).2.2.1 x c e rfl
    by_cases hc : c ∈ X.fs
    · obtain ⟨sl, q⟩ := slot c o (I.cne x c e) hc nch ho (I.freeC x c e)
      exact ⟨_, q, hd⟩
    · exact ⟨o, keep c o (I.cne x c e) hc nch ho (I.freeC x c e), hd⟩
  refine ⟨I.ok, I.os, hg, ⟨fun b o e n hb hx => ?_, fun b o e n hb hx => ?_, fun b o e n hx => ?_, fun b o e hx => ?_, fun b xs e => tups b xs (I.base.tups b xs e), fun b o xs e => frzs b o xs (I.base.frzs b o xs e), fun b ps e => ?_⟩, ?_, fun x c e => ?_, ?_, fun x c e => ?_, fun p hp => ?_, hok, I.len⟩
  · exact keep b o (neL b o e) hb (neC b o e hx) (I.base.keep b o e n hb hx) (I.base.free b o e n hx)
  · obtain ⟨sl, e1⟩ := I.base.slot b o e n hb hx
    obtain ⟨sl', e2⟩ := slot b _ (neL b o e) hb (neC b o e hx) e1 (I.base.free b o e n hx)
    exact ⟨sl', e2⟩
  · obtain ⟨o', e1⟩ := I.base.there b o e hx
    exact free b o' (neC b o e hx) e1 (I.base.free b o e n hx)
  · obtain ⟨o', e1⟩ := I.base.there b o e hx
    exact there b o' (neC b o e hx) e1
  · obtain ⟨m1, e1⟩ := I.base.tbls b ps e
    obtain ⟨m2, e2⟩ := tbls b _ e1
    exact ⟨m1 ++ m2, by rw [e2, Array.append_assoc]⟩
  · obtain ⟨m, hn, hl⟩ := I.loc
    refine ⟨m, ns m hn, fun i x v e1 e2 e3 => ?_⟩
    obtain ⟨u, r, l⟩ := hl i x v e1 e2 e3
    refine ⟨u, r, ?_⟩
    rcases l with l | ⟨k, c, e, z⟩
    · exact .inl l
    · exact .inr ⟨k, c, e, cellK x c e _ z⟩
  · obtain ⟨v, z⟩ := I.cell x c e
    exact ⟨v, cellK x c e v z⟩
  · obtain ⟨m, ⟨o, _, _, ho, _⟩, _⟩ := I.loc
    exact free _ o (fun z => (hch _ z).2.1 rfl) ho I.free
  · obtain ⟨v, o, ho, hd⟩ := I.cell x c e
    exact free c o (fun z => (hch c z).2.2.1 x c e rfl) ho (I.freeC x c e)
  · obtain ⟨e, n, ne, nf, d⟩ := I.pin p hp
    have nch : p.1 ∉ ch := fun z => (hch p.1 z).2.2.2 p hp rfl
    exact ⟨keep p.1 p.2 ne nf nch e n, free p.1 p.2 nch e n, ne, nf, d⟩
theorem Inv.un {t' : Nat} (I : Inv X pins σ H s) (u : Un X.fs [] H H' s.heap h') (hok : HOk X.prog X.w H' h') : Inv X pins σ H' { s with heap := h', toks := t' } := by
  obtain ⟨m, ⟨o, es, ep, ho, r⟩, _⟩ := id I.loc
  obtain ⟨sl, hL⟩ := u.any ho I.free (by simp)
  exact I.step (g' := s.gens) (d' := s.drawn) (ch := []) (fun _ z => nomatch z) (fun b o _ hb _ e n => u.keep b o e n hb (by simp)) (fun b o _ hb _ e n => u.slot b o e n hb (by simp)) (fun b o _ e n => u.free b o e n (by simp)) (fun b o _ e => u.there b o e (by simp)) u.tups u.frzs u.tbls (fun m' hm => by
    obtain ⟨o', es', ep', ho', r'⟩ := hm
    rw [ho] at ho'; cases ho'
    exact ⟨_, es', ep', hL, r'⟩) hok I.bare
theorem Inv.call {g' : Array GenState} {t' : Nat} {d' : Drawn} {ch : List Addr} (I : Inv X pins σ H s) (u : Un (frs X.stack) ch H H' s.heap h') (hok : HOk X.prog X.w H' h') (hg : AllBare g')
    (hch : ∀ b ∈ ch, (b ∈ X.ex ∨ X.s_0.heap.objs.size ≤ b) ∧ b ≠ X.env.locals ∧ (∀ x c, X.env.cells.lookup x = some c → c ≠ b) ∧ ∀ p ∈ X.pn ++ pins, p.1 ≠ b) :
    Inv X pins σ H' { s with heap := h', gens := g', drawn := d', toks := t' } := by
  obtain ⟨m, ⟨o, es, ep, ho, r⟩, _⟩ := id I.loc
  obtain ⟨sl, hL⟩ := u.any ho I.free fun z => (hch _ z).2.1 rfl
  exact I.step (ch := ch) hch (fun b o hL hb hc e n => u.keep b o e n (fun z => (List.mem_cons.mp (I.stkSub b z)).elim hL hb) hc) (fun b o _ _ hc e n => u.any e n hc) (fun b o hc e n => u.free b o e n hc) (fun b o hc e => u.there b o e hc) u.tups u.frzs u.tbls (fun m' hm => by
    obtain ⟨o', es', ep', ho', r'⟩ := hm
    rw [ho] at ho'; cases ho'
    exact ⟨_, es', ep', hL, r'⟩) hok hg
theorem Inv.turned {t' : Nat} {it : Addr} (I : Inv X pins σ H s) (k : ∀ b o, b ≠ it → s.heap.get? b = some o → h'.get? b = some o) (hn : H it = none) (hL : it ≠ X.env.locals)
    (h1 : it ∈ X.ex ∨ X.s_0.heap.objs.size ≤ it) (h2 : ∀ x c, X.env.cells.lookup x = some c → c ≠ it) (h3 : ∀ p ∈ X.pn ++ pins, p.1 ≠ it) : Inv X pins σ H { s with heap := h', toks := t' } := by
  have nit : ∀ b u, H b = some u → b ≠ it := fun b u e z => by rw [z, hn] at e; cases e
  refine I.step (g' := s.gens) (d' := s.drawn) (ch := [it]) (fun b hb => ?_) (fun b o _ _ hc e _ => k b o (fun z => hc (by simp [z])) e) (fun b o _ _ hc e _ => ⟨o.slots, k b o (fun z => hc (by simp [z])) e⟩) (fun _ _ _ _ n => n)
    (fun b o hc e => ⟨o, k b o (fun z => hc (by simp [z])) e⟩) (fun _ _ e => e) (fun _ _ _ e => e) (fun b ps e => ⟨#[], by rw [e]; simp⟩) (fun m hm => ?_) (fun b u e => ?_) I.bare
  · have e : b = it := by simpa using hb
    subst e
    exact ⟨h1, hL, h2, h3⟩
  · obtain ⟨o, es, ep, ho, r⟩ := hm
    exact ⟨o, es, ep, k _ o (Ne.symm hL) ho, r⟩
  · refine (I.hok b u e).stay (fun c v hc q => k c v ?_ q) (fun _ q => q) fun _ _ q => q
    rcases hc with z | z
    · rw [z]; exact nit b u e
    · exact nit c _ z
theorem Inv.tok (I : Inv X pins σ H s) (t : Nat) : Inv X pins σ H { s with toks := t } := I.un (h' := s.heap) (t' := t) Un.refl I.hok
theorem Inv.kept {t' : Nat} (I : Inv X pins σ H s) (k : ∀ b u, s.heap.get? b = some u → h'.get? b = some u) : Inv X pins σ H { s with heap := h', toks := t' } := I.un (Un.kept k) (I.hok.kept k)
theorem Inv.laid {a : Addr} {o : HO} {t' : Nat} (I : Inv X pins σ H s) (k : ∀ b u, s.heap.get? b = some u → h'.get? b = some u) (hp : s.heap.objs.size ≤ a) (new : ObjOk X.prog X.w (upd H a o) h' a o) :
    Inv X pins σ (upd H a o) { s with heap := h', toks := t' } := I.un (Un.laid k hp (I.hok.fresh hp)) (I.hok.laid k hp new)
theorem Inv.write {x e : Addr} {o : HO} {t' : Nat} (I : Inv X pins σ H s) (mu : Mut (H x)) (he : e = x ∨ H e = some (.own x)) (k : ∀ b u, b ≠ e → s.heap.get? b = some u → h'.get? b = some u) (heo : ∃ u, h'.get? e = some u)
    (new : ObjOk X.prog X.w (upd H x o) h' x o) : Inv X pins σ (upd H x o) { s with heap := h', toks := t' } := I.un (Un.write mu he k heo) (I.hok.write mu he k heo new)
theorem Inv.weak {σ' : List (Option V)} (I : Inv X pins σ H s) (hl : σ'.length = σ.length) (w : ∀ (i : Nat) v, σ'[i]? = some (some v) → σ[i]? = some (some v)) : Inv X pins σ' H s :=
  ⟨I.ok, I.os, I.bare, I.base, let ⟨m, hn, hl'⟩ := I.loc; ⟨m, hn, fun i x v e1 e2 e3 => hl' i x v e1 (w i v e2) e3⟩, I.cell, I.free, I.freeC, I.pin, I.hok, hl.trans I.len⟩
theorem Inv.pins_of {pins' : List (Addr × Obj)} (I : Inv X pins σ H s) (h : ∀ p ∈ pins', s.heap.get? p.1 = some p.2 ∧ H p.1 = none ∧ p.1 ≠ X.env.locals ∧ p.1 ∉ X.fs ∧ ∀ v, p.2.data ≠ .cell v) : Inv X pins' σ H s :=
  ⟨I.ok, I.os, I.bare, I.base, I.loc, I.cell, I.free, I.freeC, fun p hp => (List.mem_append.mp hp).elim (fun z => I.pin p (List.mem_append_left _ z)) (h p), I.hok, I.len⟩
theorem nodup_ix {N : List Str} (hN : N.Nodup) {i j : Nat} {x : Str} (a : N[i]? = some x) (b : N[j]? = some x) : i = j := by
  obtain ⟨h1, e1⟩ := List.getElem?_eq_some_iff.mp a
  obtain ⟨h2, e2⟩ := List.getElem?_eq_some_iff.mp b
  exact (List.getElem_inj hN).mp (e1.trans e2.symm)
theorem store_ok2 {M : Model} {A : Around} {E : Value → Shared → Prop} {i : Nat} {x : Str} {v : V} {u : Value} {Q : Unit → Shared → Prop} (I : Inv X pins σ H s) (hN : X.N.Nodup) (hi : X.N[i]? = some x) (hx : Loc X.env.scope x) (r : RelV v u)
    (h : ∀ s', Inv X pins (σ.set i (some v)) H s' → (∃ a, Heap.SameBut a s.heap s'.heap ∧ (a = X.env.locals ∨ X.env.cells.lookup x = some a)) → Q () s') (hf : X.fn x = true ∨ X.env.scope.names.lookup x = some .local := by first | exact .inl rfl | exact .inr rfl | assumption) : wpAny M A (storeName X.env x u) Q E s := by
  obtain ⟨m, hn, hl⟩ := id I.loc
  have hcls : (X.env.scope.kind == .class || (X.env.scope.kind == .module && X.env.locals != X.env.globals)) = false := by rw [I.ok.kind]; rfl
  have hiσ : i < σ.length := by rw [I.len]; exact (List.getElem?_eq_some_iff.mp hi).1
  have cne := I.cne
  have tracked : ∀ {a : Addr} {h' : Heap}, (∃ o, s.heap.get? a = some o ∧ H a = none) → Heap.SameBut a s.heap h' → HOk X.prog X.w H h' := fun {a h'} ha hs b ob e => by
    obtain ⟨_, _, hfree⟩ := ha
    refine (I.hok b ob e).stay (fun c w' hc q => (hs.2 c ?_).trans q) (fun _ q => q) fun _ _ q => q
    rintro rfl
    rcases hc with rfl | hc
    · rw [hfree] at e; cases e
    · rw [hfree] at hc; cases hc
  rcases hx with hk | hk
  · refine wpAny_storeName_local hk hn (fun h' hn' hs => ?_) hcls
    obtain ⟨oL, _, _, hoL, _⟩ := id hn
    refine h _ ⟨I.ok, I.os, I.bare, ⟨fun b o e n hb hx => ?_, fun b o e n hb hx => ?_, I.base.free, fun b o e hx => ?_, I.base.tups, I.base.frzs, I.base.tbls⟩, ⟨_, hn', fun j y v' e1 e2 e3 => ?_⟩, fun y c e => ?_, I.free, I.freeC, fun p hp => ?_, tracked ⟨oL, hoL, I.free⟩ hs, by simpa using I.len⟩ ⟨_, hs, .inl rfl⟩
    · exact (hs.2 b (Nat.ne_of_lt (Nat.lt_of_lt_of_le (Heap.lt_size e) I.ok.above))).trans (I.base.keep b o e n hb hx)
    · obtain ⟨sl, e1⟩ := I.base.slot b o e n hb hx
      exact ⟨sl, (hs.2 b (Nat.ne_of_lt (Nat.lt_of_lt_of_le (Heap.lt_size e) I.ok.above))).trans e1⟩
    · obtain ⟨o', e1⟩ := I.base.there b o e hx
      exact ⟨o', (hs.2 b (Nat.ne_of_lt (Nat.lt_of_lt_of_le (Heap.lt_size e) I.ok.above))).trans e1⟩
    · by_cases hj : j = i
      · subst hj
        rw [hi] at e1; cases e1
        rw [List.getElem?_set_self hiσ] at e2
        cases e2
        exact ⟨u, r, .inl ⟨hk, by simp⟩⟩
      · rw [List.getElem?_set_ne (Ne.symm hj)] at e2
        obtain ⟨u', r', q⟩ := hl j y v' e1 e2 e3
        refine ⟨u', r', ?_⟩
        rcases q with ⟨k, e⟩ | ⟨k, c, e, z⟩
        · refine .inl ⟨k, ?_⟩
          have : y ≠ x := fun e => hj (nodup_ix hN e1 (e ▸ hi))
          simp [this, e]
        · exact .inr ⟨k, c, e, z.sameBut hs (cne y c e)⟩
    · obtain ⟨w', z⟩ := I.cell y c e
      exact ⟨w', z.sameBut hs (cne y c e)⟩
    · obtain ⟨e, n, ne, nf, d⟩ := I.pin p hp
      exact ⟨(hs.2 p.1 ne).trans e, n, ne, nf, d⟩
  · have hfn : X.fn x = true := by
      rcases hf with z | z
      · exact z
      · rw [z] at hk; cases hk
    obtain ⟨c, hc⟩ := I.ok.has x (.inl hk)
    obtain ⟨w', z⟩ := I.cell x c hc
    refine wpAny_storeName_cell I.ok.kind hk hc z (fun h' hc' hs => ?_)
    obtain ⟨oc, hoc, hocd⟩ := id z
    refine h { s with heap := h' } ⟨I.ok, I.os, I.bare, ⟨fun b o e n hb hx => ?_, fun b o e n hb hx => ?_, I.base.free, fun b o e hx => ?_, I.base.tups, I.base.frzs, I.base.tbls⟩, ⟨m, hn.sameBut hs (Ne.symm (cne x c hc)), fun j y v' e1 e2 e3 => ?_⟩, fun y c' e => ?_, I.free, I.freeC, fun p hp => ?_, tracked ⟨oc, hoc, I.freeC x c hc⟩ hs, by simpa using I.len⟩ ⟨c, hs, .inr hc⟩
    · exact (hs.2 b (Nat.ne_of_lt (Nat.lt_of_lt_of_le (Heap.lt_size e) (I.ok.cab x c hfn hc)))).trans (I.base.keep b o e n hb hx)
    · obtain ⟨sl, e1⟩ := I.base.slot b o e n hb hx
      exact ⟨sl, (hs.2 b (Nat.ne_of_lt (Nat.lt_of_lt_of_le (Heap.lt_size e) (I.ok.cab x c hfn hc)))).trans e1⟩
    · obtain ⟨o', e1⟩ := I.base.there b o e hx
      exact ⟨o', (hs.2 b (Nat.ne_of_lt (Nat.lt_of_lt_of_le (Heap.lt_size e) (I.ok.cab x c hfn hc)))).trans e1⟩
    · by_cases hj : j = i
      · subst hj
        rw [hi] at e1; cases e1
        rw [List.getElem?_set_self hiσ] at e2
        cases e2
        exact ⟨u, r, .inr ⟨.inl hk, c, hc, hc'⟩⟩
      · rw [List.getElem?_set_ne (Ne.symm hj)] at e2
        obtain ⟨u', r', q⟩ := hl j y v' e1 e2 e3
        refine ⟨u', r', ?_⟩
        rcases q with q | ⟨k, c', e, z'⟩
        · exact .inl q
        · refine .inr ⟨k, c', e, z'.sameBut hs ?_⟩
          rintro rfl
          exact hj (nodup_ix hN e1 (I.ok.inj _ _ _ e hc ▸ hi))
    · by_cases hcc : c' = c
      · subst hcc; exact ⟨_, hc'⟩
      · obtain ⟨w2, z2⟩ := I.cell y c' e
        exact ⟨w2, z2.sameBut hs hcc⟩
    · obtain ⟨e, n, ne, nf, d⟩ := I.pin p hp
      refine ⟨(hs.2 p.1 ?_).trans e, n, ne, nf, d⟩
      intro q
      rw [q, hoc] at e
      have q' : oc = p.2 := Option.some.inj e
      exact d w' (by rw [← q']; exact hocd)
theorem store_ok {M : Model} {A : Around} {E : Value → Shared → Prop} {i : Nat} {x : Str} {v : V} {u : Value} {Q : Unit → Shared → Prop} (I : Inv X pins σ H s) (hN : X.N.Nodup) (hi : X.N[i]? = some x) (hx : Loc X.env.scope x) (r : RelV v u)
    (h : ∀ s', Inv X pins (σ.set i (some v)) H s' → Q () s') (hf : X.fn x = true ∨ X.env.scope.names.lookup x = some .local := by first | exact .inl rfl | exact .inr rfl | assumption) : wpAny M A (storeName X.env x u) Q E s :=
  store_ok2 I hN hi hx r (fun s' I' _ => h s' I') hf
theorem Inv.call' {s' : Shared} {ch : List Addr} (I : Inv X pins σ H s) (ho : s'.os = s.os) (u : Un (frs X.stack) ch H H' s.heap s'.heap) (hok : HOk X.prog X.w H' s'.heap) (hg : AllBare s'.gens)
    (hch : ∀ b ∈ ch, (b ∈ X.ex ∨ X.s_0.heap.objs.size ≤ b) ∧ b ≠ X.env.locals ∧ (∀ x c, X.env.cells.lookup x = some c → c ≠ b) ∧ ∀ p ∈ X.pn ++ pins, p.1 ≠ b) : Inv X pins σ H' s' := by
  obtain ⟨h', g', d', t', o'⟩ := s'
  have e : o' = s.os := ho
  subst e
  exact I.call (g' := g') (t' := t') (d' := d') u hok hg hch
end
abbrev XK := Value → Option Addr → Hp → Prop
abbrev St := List (Option V)
abbrev VK := V → Hp → Prop
abbrev TE := St → Hp → VK → Prop
abbrev TT := St → Hp → (Bool → Hp → Prop) → Prop
abbrev TA := St → Hp → (List V → Hp → Prop) → Prop
structure Ends where
  nx : St → Hp → Prop
  rt : VK
  bk : St → Hp → Prop := fun _ _ => False
  ct : St → Hp → Prop := fun _ _ => False
abbrev TS := Ends → St → Hp → Prop
def EP (X : Cx) (pins : List (Addr × Obj)) (σ : St) (Q : VK) (u : Value) (s' : Shared) : Prop := ∃ v H', Inv X pins σ H' s' ∧ RelV v u ∧ Q v H'
def TP (X : Cx) (pins : List (Addr × Obj)) (σ : St) (Q : Bool → Hp → Prop) (b : Bool) (s' : Shared) : Prop := ∃ H', Inv X pins σ H' s' ∧ Q b H'
def AP (X : Cx) (pins : List (Addr × Obj)) (σ : St) (Q : List V → Hp → Prop) (us : List Value) (s' : Shared) : Prop := ∃ vs H', Inv X pins σ H' s' ∧ Vals vs us ∧ Q vs H'
def SP (X : Cx) (pins : List (Addr × Obj)) (D : Ends) (f : Flow) (s' : Shared) : Prop :=
  match f with
  | .next => ∃ σ' H', Inv X pins σ' H' s' ∧ D.nx σ' H'
  | .brk => ∃ σ' H', Inv X pins σ' H' s' ∧ D.bk σ' H'
  | .cont => ∃ σ' H', Inv X pins σ' H' s' ∧ D.ct σ' H'
  | .ret u => ∃ v σ' H', Inv X pins σ' H' s' ∧ RelV v u ∧ D.rt v H'
def PE (X : Cx) (e : Expr) (t : TE) : Prop :=
  ∀ (pins : List (Addr × Obj)) (s : Shared) (σ : St) (H : Hp) (Q : VK), Inv X pins σ H s → t σ H Q → wpAny (model X.prog X.w) X.A (eval e X.env) (EP X pins σ Q) X.xe s
def PT (X : Cx) (e : Expr) (t : TT) : Prop :=
  ∀ (pins : List (Addr × Obj)) (s : Shared) (σ : St) (H : Hp) (Q : Bool → Hp → Prop), Inv X pins σ H s → t σ H Q → wpAny (model X.prog X.w) X.A (isTrue e X.env (eval e X.env)) (TP X pins σ Q) X.xe s
def PW (X : Cx) (e : Expr) (t : TT) : Prop :=
  ∀ (whole : Sem Value) (pins : List (Addr × Obj)) (s : Shared) (σ : St) (H : Hp) (Q : Bool → Hp → Prop), Inv X pins σ H s → t σ H Q → wpAny (model X.prog X.w) X.A (isTrue e X.env whole) (TP X pins σ Q) X.xe s
theorem PW.pt {X : Cx} {e : Expr} {t : TT} (h : PW X e t) : PT X e t := h _
def PA (X : Cx) (es : List Expr) (t : TA) : Prop :=
  ∀ (pos : Pos) (pins : List (Addr × Obj)) (s : Shared) (σ : St) (H : Hp) (Q : List V → Hp → Prop), Inv X pins σ H s → t σ H Q → wpAny (model X.prog X.w) X.A (spliced (backTo pos (starEach es X.env))) (AP X pins σ Q) X.xe s
def PS (X : Cx) (st : Stmt) (t : TS) : Prop :=
  ∀ (pins : List (Addr × Obj)) (s : Shared) (σ : St) (H : Hp) (D : Ends), Inv X pins σ H s → t D σ H → wpAny (model X.prog X.w) X.A (exec st X.env) (SP X pins D) X.xe s
def PSs (X : Cx) (st : List Stmt) (t : TS) : Prop :=
  ∀ (pins : List (Addr × Obj)) (s : Shared) (σ : St) (H : Hp) (D : Ends), Inv X pins σ H s → t D σ H → wpAny (model X.prog X.w) X.A (execs st X.env) (SP X pins D) X.xe s
theorem thn {α : Type} {t : Sem α} {Q Q' : α → Shared → Prop} {M : Model} {A : Around} {E : Value → Shared → Prop} {s : Shared} (h : wpAny M A t Q E s) (hQ : ∀ a s, Q a s → Q' a s) : wpAny M A t Q' E s := wpAny_mono h hQ fun _ _ x => x
end L2
namespace L2
open PySem PySem.Spec PyProof.Rows
section
variable {X : Cx}
def tVar (i : Nat) : TE := fun σ H Q => ∃ v, σ[i]? = some (some v) ∧ Q v H
def tC (v : V) : TE := fun _ H Q => Q v H
theorem pe_var {i : Nat} {x : Str} {pos : Pos} (hN : X.N[i]? = some x) (hv : Vis X.env.scope x) (hd : (x == ("__debug__" : Str)) = false := by decide) (hcd : (x == ("__classdict__" : Str)) = false := by decide) : PE X (.Name x pos) (tVar i) := by
  intro pins s σ H Q I h
  obtain ⟨v, e, h⟩ := h
  obtain ⟨m, hn, hl⟩ := I.loc
  obtain ⟨u, r, l⟩ := hl i x v hN e hv
  have fin : EP X pins σ Q u s := ⟨v, H, I, r, h⟩
  rcases l with ⟨hk, hm⟩ | ⟨hk, c, hc, hcell⟩
  · exact wpAny_Name (wpAny_loadName_local I.ok.kind hk hn hm fin) hd
  · rcases hk with hk | hk
    · exact wpAny_Name (wpAny_loadName_cell I.ok.kind hk hc hcell fin) hd
    · exact wpAny_Name (wpAny_loadName_free I.ok.kind hk hc hcell fin hcd) hd
theorem pe_int {i j pos} : PE X (.Constant (.int i) j pos) (tC (.int i)) := fun _ _ _ H _ I h => wpAny_Constant_int ⟨.int i, H, I.tok _, ⟨_, rfl⟩, h⟩
theorem pe_bl {b j pos} : PE X (.Constant (.bool b) j pos) (tC (.bl b)) := fun _ _ _ H _ I h => Constant_bool ⟨.bl b, H, I, rfl, h⟩
theorem pe_str {x j pos} : PE X (.Constant (.str x) j pos) (tC (.str x)) := fun _ _ _ H _ I h => Calls.Constant_str ⟨.str x, H, I.tok _, ⟨_, rfl⟩, h⟩
def Gl (X : Cx) (x : Str) : Prop := X.env.kindOf x = some .globalImplicit
theorem ld_glob {E : Value → Shared → Prop} {pins : List (Addr × Obj)} {s : Shared} {σ : St} {H : Hp} {x : Str} {u : Value} {pos : Pos} {Q : Value → Shared → Prop} (I : Inv X pins σ H s) (hg : Gl X x) (hm : X.mg x = some u) (h : Q u s)
    (hd : (x == ("__debug__" : Str)) = false := by decide) : wpAny (model X.prog X.w) X.A (eval (.Name x pos) X.env) Q E s :=
  Calls.Name_function_global I.ok.kind hg (Calls.loadGlobal_global (by rw [I.ok.glob]; exact I.mod.glob.keeps I.bk) hm h) hd
theorem ld_blt {E : Value → Shared → Prop} {pins : List (Addr × Obj)} {s : Shared} {σ : St} {H : Hp} {x : Str} {u : Value} {pos : Pos} {Q : Value → Shared → Prop} (I : Inv X pins σ H s) (hg : Gl X x) (hm : X.mg x = none) (hv : bootBuiltins x = some u) (h : Q u s)
    (hn : x ≠ "__name__" := by decide) (hd : (x == ("__debug__" : Str)) = false := by decide) : wpAny (model X.prog X.w) X.A (eval (.Name x pos) X.env) Q E s := by
  obtain ⟨mb, h1, h2⟩ := I.mod.blt
  exact Calls.Name_function_global I.ok.kind hg (Calls.loadGlobal_builtin (by rw [I.ok.glob]; exact I.mod.glob.keeps I.bk) hm (by rw [I.ok.blt]; exact h1.keeps I.bk) ((h2 x hn).trans hv) h) hd
variable {a b : Expr} {ta tb : TE} {pos : Pos}
variable {tA tB' : TT} {rest : List Expr}
def tOr (t u : TT) : TT := fun σ H Q => t σ H fun c H1 => if c = true then Q true H1 else u σ H1 Q
def tNot (t : TT) : TT := fun σ H Q => t σ H fun c H1 => Q (!c) H1
theorem pw_or1 (ha : PT X a tA) : PW X (.BoolOp .Or [a] pos) tA := by
  intro wh pins s σ H Q I h
  refine isTrue_or (thn (ha pins s σ H Q I h) fun c s1 e => ?_)
  cases c with
  | false => exact isTrue_or_nil e
  | true => exact e
theorem pw_or (ha : PT X a tA) (hb : PW X (.BoolOp .Or (b :: rest) pos) tB') : PW X (.BoolOp .Or (a :: b :: rest) pos) (tOr tA tB') := by
  intro wh pins s σ H Q I h
  refine isTrue_or (thn (ha pins s σ H _ I h) fun c s1 ⟨H1, I1, q1⟩ => ?_)
  cases c with
  | true => exact ⟨H1, I1, q1⟩
  | false => exact hb wh pins s1 σ H1 Q I1 q1
theorem pt_not (ha : PT X a tA) : PT X (.UnaryOp .Not a pos) (tNot tA) := by
  intro pins s σ H Q I h
  exact isTrue_not (ha pins s σ H (fun c H1 => Q (!c) H1) I h)
def tIf (t : TT) (ta tb : TE) : TE := fun σ H Q => t σ H fun c H1 => if c = true then ta σ H1 Q else tb σ H1 Q
theorem pe_ifExp {c : Expr} (hc : PT X c tA) (ha : PE X a ta) (hb : PE X b tb) : PE X (.IfExp c a b pos) (tIf tA ta tb) := by
  intro pins s σ H Q I h
  refine wpAny_IfExp (thn (hc pins s σ H _ I h) fun d s1 ⟨H1, I1, q1⟩ => ?_)
  cases d with
  | true => exact ha pins s1 σ H1 Q I1 q1
  | false => exact hb pins s1 σ H1 Q I1 q1
end
end L2
namespace L2
open PySem PySem.Spec PyProof.Rows
def SqL (K : PySem.W.Frag) (H : Hp) (a : Addr) (xs : List V) : Prop :=
  Rd H a (.lst xs) ∨
    ∃ (o : Obj) (its : Array Value) (n : Nat), K.lookup a = some o ∧ o.cls = .type "list" ∧ o.dict = none ∧ o.data = .seq its n ∧ its.size ≤ sizeLine ∧ Vals xs its.toList
def SqT (K : PySem.W.Frag) (H : Hp) (a : Addr) (xs : List V) : Prop :=
  Rd H a (.tup xs) ∨
    ∃ (o : Obj) (its : Array Value) (n : Nat), K.lookup a = some o ∧ o.cls = .type "tuple" ∧ o.data = .seq its n ∧ its.size ≤ sizeLine ∧ Vals xs its.toList
def absV : Value → Option V
  | .none => some .non
  | .bool b => some (.bl b)
  | .int i _ => some (.int i)
  | .str x _ => some (.str x)
  | .bytes b _ => some (.byt b)
  | .float b _ => some (.flt b)
  | .ref a => some (.ref a)
  | .type n => some (.ty n)
  | _ => none
theorem RelV.abs {x : V} {u : Value} (r : RelV x u) : absV u = some x := by
  cases x with
  | non => cases r; rfl
  | bl _ => cases r; rfl
  | int _ => obtain ⟨t, rfl⟩ := r; rfl
  | str _ => obtain ⟨t, rfl⟩ := r; rfl
  | byt _ => obtain ⟨t, rfl⟩ := r; rfl
  | flt _ => obtain ⟨t, rfl⟩ := r; rfl
  | ref _ => cases r; rfl
  | ty _ => cases r; rfl
theorem RelV.inj {x y : V} {u : Value} (r : RelV x u) (q : RelV y u) : x = y := Option.some.inj (r.abs.symm.trans q.abs)
theorem Vals.inj : ∀ {xs ys : List V} {us : List Value}, Vals xs us → Vals ys us → xs = ys
  | _, _, _, .nil, .nil => rfl
  | _, _, _, .cons r t, .cons r' t' => by rw [r.inj r', Vals.inj t t']
section
variable {X : Cx} {pins : List (Addr × Obj)} {σ : St} {H : Hp} {s : Shared} {a : Addr} {xs ys : List V}
theorem SqL.of {K : PySem.W.Frag} (h : H a = some (.lst xs)) : SqL K H a xs := .inl (.inl h)
theorem SqT.of {K : PySem.W.Frag} (h : H a = some (.tup xs)) : SqT K H a xs := .inl (.inl h)
theorem Inv.list (I : Inv X pins σ H s) (h : SqL X.K H a xs) : ∃ its : List Value, Vals xs its ∧ PlainL s.heap a its.toArray ∧ xs.length ≤ sizeLine := by
  rcases h with h | ⟨o, its, n, hk, hc, hd, hs, hz, r⟩
  · obtain ⟨z, its, n, r, e⟩ := h.ok I.hok
    exact ⟨its, r, ⟨_, n, e, rfl, rfl, rfl⟩, z⟩
  · refine ⟨its.toList, r, ⟨o, n, I.kIn a o hk, hc, hd, by simpa using hs⟩, ?_⟩
    have e := r.length
    simp only [Array.length_toList] at e
    omega
theorem Inv.tuple (I : Inv X pins σ H s) (h : SqT X.K H a xs) : ∃ its : List Value, Vals xs its ∧ IsTup s.heap a its.toArray ∧ xs.length ≤ sizeLine := by
  rcases h with h | ⟨o, its, n, hk, hc, hs, hz, r⟩
  · obtain ⟨z, its, r, p⟩ := h.ok I.hok
    exact ⟨its, r, p.tup, z⟩
  · refine ⟨its.toList, r, ⟨o, I.kIn a o hk, hc, n, by simpa using hs⟩, ?_⟩
    have e := r.length
    simp only [Array.length_toList] at e
    omega
theorem Inv.list_inj (I : Inv X pins σ H s) (h : SqL X.K H a xs) (h' : SqL X.K H a ys) : xs = ys := by
  obtain ⟨its, r, ⟨o, n, e, _, _, d⟩, _⟩ := I.list h
  obtain ⟨its', r', ⟨o', n', e', _, _, d'⟩, _⟩ := I.list h'
  rw [e] at e'; cases e'
  rw [d] at d'
  injection d' with d1 _
  have : its = its' := by simpa using congrArg Array.toList d1
  subst this
  exact r.inj r'
theorem Inv.tuple_inj (I : Inv X pins σ H s) (h : SqT X.K H a xs) (h' : SqT X.K H a ys) : xs = ys := by
  obtain ⟨its, r, ⟨o, e, _, n, d⟩, _⟩ := I.tuple h
  obtain ⟨its', r', ⟨o', e', _, n', d'⟩, _⟩ := I.tuple h'
  rw [e] at e'; cases e'
  rw [d] at d'
  injection d' with d1 _
  have : its = its' := by simpa using congrArg Array.toList d1
  subst this
  exact r.inj r'
end
abbrev Cx.wish (X : Cx) (E : Value → Shared → Prop) : Cx := { X with xe := E }
abbrev Cx.nox (X : Cx) : Cx := X.wish fun _ _ => False
theorem Cx.Ok.wish {X : Cx} (ok : X.Ok) (E : Value → Shared → Prop) : (X.wish E).Ok :=
  ⟨ok.mod, ok.kind, ok.glob, ok.blt, ok.above, ok.inj, ok.has, ok.cab, ok.hd, ok.frames, ok.stk, ok.exf, ok.bs, ok.bsz, ok.noex, ok.exfs, ok.funs, ok.frf⟩
theorem Cx.Ok.unwish {X : Cx} {E : Value → Shared → Prop} (ok : (X.wish E).Ok) : X.Ok :=
  ⟨ok.mod, ok.kind, ok.glob, ok.blt, ok.above, ok.inj, ok.has, ok.cab, ok.hd, ok.frames, ok.stk, ok.exf, ok.bs, ok.bsz, ok.noex, ok.exfs, ok.funs, ok.frf⟩
section
variable {X : Cx} {pins : List (Addr × Obj)} {σ : St} {H : Hp} {s : Shared} {E : Value → Shared → Prop}
theorem Inv.wish (I : Inv X pins σ H s) (E : Value → Shared → Prop) : Inv (X.wish E) pins σ H s := ⟨I.ok.wish E, I.os, I.bare, I.base, I.loc, I.cell, I.free, I.freeC, I.pin, I.hok, I.len⟩
theorem Inv.unwish (I : Inv (X.wish E) pins σ H s) : Inv X pins σ H s := ⟨I.ok.unwish, I.os, I.bare, I.base, I.loc, I.cell, I.free, I.freeC, I.pin, I.hok, I.len⟩
theorem SP.unwish {D : Ends} {f : Flow} {s' : Shared} (h : SP (X.wish E) pins D f s') : SP X pins D f s' := by
  cases f with
  | next => obtain ⟨σ', H', I, q⟩ := h; exact ⟨σ', H', I.unwish, q⟩
  | brk => obtain ⟨σ', H', I, q⟩ := h; exact ⟨σ', H', I.unwish, q⟩
  | cont => obtain ⟨σ', H', I, q⟩ := h; exact ⟨σ', H', I.unwish, q⟩
  | ret u => obtain ⟨v, σ', H', I, r, q⟩ := h; exact ⟨v, σ', H', I.unwish, r, q⟩
theorem PE.nox {e : Expr} {t : TE} (h : PE X.nox e t) : PE X e t := fun pins s σ H Q I hw =>
  wpAny_mono (h pins s σ H Q (I.wish _) hw) (fun _ _ ⟨v, H', I', r, q⟩ => ⟨v, H', I'.unwish, r, q⟩) fun _ _ z => False.elim z
theorem PT.nox {e : Expr} {t : TT} (h : PT X.nox e t) : PT X e t := fun pins s σ H Q I hw =>
  wpAny_mono (h pins s σ H Q (I.wish _) hw) (fun _ _ ⟨H', I', q⟩ => ⟨H', I'.unwish, q⟩) fun _ _ z => False.elim z
theorem PSs.nox {st : List Stmt} {t : TS} (h : PSs X.nox st t) : PSs X st t := fun pins s σ H D I hw =>
  wpAny_mono (h pins s σ H D (I.wish _) hw) (fun _ _ q => q.unwish) fun _ _ z => False.elim z
end
section
variable {X : Cx} {st : Stmt} {rest : List Stmt} {t u : TS} {e : Expr} {te : TE} {pos : Pos}
def tNext : TS := fun D σ H => D.nx σ H
def tSeq (t u : TS) : TS := fun D σ H => t { D with nx := u D } σ H
theorem pss_nil : PSs X [] tNext := fun _ _ σ H _ I h => wpAny_execs_nil ⟨σ, H, I, h⟩
theorem pss_cons (h1 : PS X st t) (h2 : PSs X rest u) : PSs X (st :: rest) (tSeq t u) := by
  intro pins s σ H D I h
  refine wpAny_execs_cons (thn (h1 pins s σ H { D with nx := u D } I h) fun f s1 q => ?_)
  cases f with
  | next =>
    obtain ⟨σ', H', I', q⟩ := q
    exact h2 pins s1 σ' H' D I' q
  | ret v => exact q
  | brk => exact q
  | cont => exact q
theorem pss_one (h1 : PS X st t) : PSs X [st] t := by
  intro pins s σ H D I h
  refine wpAny_execs_cons (thn (h1 pins s σ H D I h) fun f s1 q => ?_)
  cases f with
  | next => exact wpAny_execs_nil q
  | ret v => exact q
  | brk => exact q
  | cont => exact q
theorem Inv.quiet {pins : List (Addr × Obj)} {σ : St} {H : Hp} {s : Shared} (I : Inv X pins σ H s) : interactive X.env = false := by simp [interactive, I.ok.kind]
def tDrop (te : TE) : TS := fun D σ H => te σ H fun _ H1 => D.nx σ H1
theorem ps_expr (he : PE X e te) (hs : swapsWith e none pos.line X.env = pure false := by rfl) : PS X (.Expr e pos) (tDrop te) := by
  intro pins s σ H D I h
  exact wpAny_Expr_any (thn (he pins s σ H _ I h) fun v s1 ⟨x, H1, I1, r1, q1⟩ => ⟨σ, H1, I1, q1⟩) I.quiet hs
def tRet (te : TE) : TS := fun D σ H => te σ H D.rt
theorem ps_ret (he : PE X e te) : PS X (.Return (some e) pos) (tRet te) := by
  intro pins s σ H D I h
  exact wpAny_Return_some (thn (he pins s σ H _ I h) fun v s1 ⟨x, H1, I1, r1, q1⟩ => ⟨x, σ, H1, I1, r1, q1⟩)
def tIfS (c : TT) (t u : TS) : TS := fun D σ H => c σ H fun b H1 => if b = true then t D σ H1 else u D σ H1
theorem ps_if {c : Expr} {a b : List Stmt} {tc : TT} (hc : PT X c tc) (ha : PSs X a t) (hb : PSs X b u) : PS X (.If c a b pos) (tIfS tc t u) := by
  intro pins s σ H D I h
  refine wpAny_If (thn (hc pins s σ H _ I h) fun d s1 ⟨H1, I1, q1⟩ => ?_)
  cases d with
  | true => exact ha pins s1 σ H1 D I1 q1
  | false => exact hb pins s1 σ H1 D I1 q1
end
abbrev TG := V → St → Hp → (St → Hp → Prop) → Prop
abbrev TGs := List V → St → Hp → (St → Hp → Prop) → Prop
def PG (X : Cx) (target : Expr) (t : TG) : Prop :=
  ∀ (pins : List (Addr × Obj)) (s : Shared) (σ : St) (H : Hp) (v : V) (u : Value) (Q : St → Hp → Prop), Inv X pins σ H s → RelV v u → t v σ H Q →
    wpAny (model X.prog X.w) X.A (assign target X.env u) (fun _ s' => ∃ σ' H', Inv X pins σ' H' s' ∧ Q σ' H') X.xe s
def PGs (X : Cx) (ts : List Expr) (t : TGs) : Prop :=
  ∀ (pins : List (Addr × Obj)) (s : Shared) (σ : St) (H : Hp) (vs : List V) (us : List Value) (Q : St → Hp → Prop), Inv X pins σ H s → Vals vs us → t vs σ H Q →
    wpAny (model X.prog X.w) X.A (assignInOrder ((assignEach ts X.env).map (·.2)) us) (fun _ s' => ∃ σ' H', Inv X pins σ' H' s' ∧ Q σ' H') X.xe s
section
variable {X : Cx} {pos : Pos}
def gName (i : Nat) : TG := fun v σ H Q => Q (σ.set i (some v)) H
theorem pg_name {i : Nat} {x : Str} (hN : X.N.Nodup) (hi : X.N[i]? = some x) (hx : Loc X.env.scope x) (hf : X.fn x = true ∨ X.env.scope.names.lookup x = some .local := by first | exact .inl rfl | exact .inr rfl | assumption) : PG X (.Name x pos) (gName i) := by
  intro pins s σ H v u Q I r h
  exact wpAny_assign_Name (store_ok I hN hi hx r (fun s' I' => ⟨_, H, I', h⟩) hf)
def gNil : TGs := fun vs σ H Q => vs = [] ∧ Q σ H
def gCons (t : TG) (u : TGs) : TGs := fun vs σ H Q => ∃ v r, vs = v :: r ∧ t v σ H fun σ' H' => u r σ' H' Q
theorem pgs_nil : PGs X [] gNil := by
  intro pins s σ H vs us Q I r h
  obtain ⟨e, h⟩ := h
  subst e
  cases r
  exact assignInOrder_nil ⟨σ, H, I, h⟩
theorem pgs_cons {e : Expr} {es : List Expr} {t : TG} {u : TGs} (h1 : PG X e t) (h2 : PGs X es u)
    (hs : (assignEach (e :: es) X.env).map (·.2) = assign e X.env :: (assignEach es X.env).map (·.2) := by rfl) : PGs X (e :: es) (gCons t u) := by
  intro pins s σ H vs us Q I r h
  obtain ⟨v, vr, e1, h⟩ := h
  subst e1
  cases r with
  | cons r rr =>
    rw [hs]
    refine assignInOrder_cons (thn (h1 pins s σ H _ _ _ I r h) fun _ s1 ⟨σ1, H1, I1, q1⟩ => ?_)
    exact h2 pins s1 σ1 H1 _ _ Q I1 rr q1
def gTup (K : PySem.W.Frag) (n : Nat) (t : TGs) : TG := fun v σ H Q => ∃ a xs, v = .ref a ∧ SqT K H a xs ∧ xs.length = n ∧ t xs σ H Q
theorem pg_tup {es : List Expr} {k : Nat} {t : TGs} {n : Nat} (hc : X.calm = true) (h : PGs X es t)
    (hn : (assignEach es X.env).length = n := by rfl) (hst : (assignEach es X.env).findIdx? (·.1) = none := by rfl) : PG X (.Tuple es k pos) (gTup X.K n t) := by
  intro pins s σ H v u Q I r hw
  obtain ⟨a, xs, e1, hq, hl, hw⟩ := hw
  subst e1
  cases r
  obtain ⟨its, rv, ht, hz⟩ := I.tuple hq
  refine assign_Tuple_tuple (I.ok.hd hc) ht (by simp [hn, ← hl, rv.length]) hst fun h' hx => ?_
  have I1 : Inv X pins σ H { s with heap := h' } := I.kept (t' := s.toks) fun b o e => hx b o (Nat.ne_of_lt (Heap.lt_size e)) e
  exact h pins _ σ H xs _ Q I1 (by simpa using rv) hw
def tAsg (te : TE) (g : TG) : TS := fun D σ H => te σ H fun x H1 => g x σ H1 D.nx
theorem ps_asg {tg e : Expr} {te : TE} {g : TG} (he : PE X e te) (hg : PG X tg g) (hs : swapsWithSole [tg] e pos.line X.env = pure false := by rfl) (hw : swappedStores [tg] e X.env = pure none := by rfl)
    (h1 : (assignEach [tg] X.env).map (·.2) = [assign tg X.env] := by rfl) : PS X (.Assign [tg] e pos) (tAsg te g) := by
  intro pins s σ H D I h
  refine wpAny_Assign_stores (thn (he pins s σ H _ I h) fun v s1 ⟨x, H1, I1, r1, q1⟩ => ?_) hs hw
  rw [h1]
  exact thn (hg pins s1 σ H1 x v _ I1 r1 q1) fun _ s2 q => q
theorem ps_set {i : Nat} {x : Str} {e : Expr} {te : TE} {pos' : Pos} (hN : X.N.Nodup) (hi : X.N[i]? = some x) (hx : Loc X.env.scope x) (he : PE X e te) (hs : swapsWith e (some (.Name x pos')) pos.line X.env = pure false := by rfl) (hf : X.fn x = true ∨ X.env.scope.names.lookup x = some .local := by first | exact .inl rfl | exact .inr rfl | assumption) :
    PS X (.Assign [.Name x pos'] e pos) (tAsg te (gName i)) := by
  intro pins s σ H D I h
  refine wpAny_Assign_Name (thn (he pins s σ H _ I h) fun v s1 ⟨y, H1, I1, r1, q1⟩ => ?_) hs
  exact store_ok I1 hN hi hx r1 (fun s2 I2 => ⟨_, H1, I2, q1⟩) hf
def tPar (i j : Nat) (ta : TA) : TS := fun D σ H => ta σ H fun vs H1 => ∃ v w, vs = [v, w] ∧ D.nx ((σ.set i (some v)).set j (some w)) H1
theorem ps_par {i j : Nat} {x y : Str} {a b : Expr} {ta : TA} {px py pt : Pos} {kt k2 pt2} (hc : X.calm = true) (hN : X.N.Nodup) (hi : X.N[i]? = some x) (hj : X.N[j]? = some y) (hij : i ≠ j)
    (hx : X.env.scope.names.lookup x = some .local) (hy : X.env.scope.names.lookup y = some .local) (ha : PA X [a, b] ta)
    (hw : swappedStores [.Tuple [.Name x px, .Name y py] kt pt] (.Tuple [a, b] k2 pt2) X.env = pure (some [x, y]))
    (hs : swapsWithSole [.Tuple [.Name x px, .Name y py] kt pt] (.Tuple [a, b] k2 pt2) pos.line X.env = pure false := by rfl) :
    PS X (.Assign [.Tuple [.Name x px, .Name y py] kt pt] (.Tuple [a, b] k2 pt2) pos) (tPar i j ta) := by
  intro pins s σ H D I h
  rw [exec_Assign_arm]
  refine wpAny_bind (wpAny_standAt ?_)
  rw [hs]
  refine wpAny_bind (wpAny_pure ?_)
  rw [if_neg (by decide)]
  refine wpAny_bind (Tuple_ (thn (ha _ pins s σ H _ I h) fun us s1 ⟨vs, H1, I1, r1, q1⟩ => ?_))
  obtain ⟨v, w, e1, q1⟩ := q1
  subst e1
  obtain ⟨u1, u2, rfl, rv, rw'⟩ : ∃ u1 u2, us = [u1, u2] ∧ RelV v u1 ∧ RelV w u2 := by
    cases r1 with
    | cons p q =>
      cases q with
      | cons p' q' =>
        cases q'
        exact ⟨_, _, rfl, p, p'⟩
  refine wpAny_newObj_type ?_ (by show 2 ≤ sizeLine; decide)
  have I2 : Inv X pins σ H1 { s1 with heap := s1.heap.push { cls := .type "tuple", data := .seq [u1, u2].toArray } } := I1.kept (t' := s1.toks) fun b o e => Heap.get?_push_of_some _ e
  rw [hw]
  refine wpAny_bind (wpAny_pure ?_)
  show wpAny (model X.prog X.w) X.A (do rule "assign.swapped-stores"; let items ← unpackItems (.ref s1.heap.objs.size) 2 none; assignInOrder [fun v => bindName X.env y v, fun v => bindName X.env x v] items.reverse; pure Flow.next) _ _ _
  refine wpAny_bind (wpAny_rule (wpAny_bind (unpackItems_tuple (items := #[u1, u2]) (I.ok.hd hc) (IsTup.new s1.heap _) fun h' hx' => ?_)))
  have I3 := I2.kept (h' := h') (t' := s1.toks) fun b o e => hx' b o (Nat.ne_of_lt (Heap.lt_size e)) e
  show wpAny _ _ (assignInOrder [fun v => bindName X.env y v, fun v => bindName X.env x v] [u2, u1] >>= fun _ => pure Flow.next) _ _ _
  refine wpAny_bind (assignInOrder_cons (wpAny_bindName (store_ok I3 hN hj (.inl hy) rw' (fun s2 I4 => ?_) (.inr hy))))
  refine assignInOrder_cons (wpAny_bindName (store_ok I4 hN hi (.inl hx) rv (fun s3 I5 => assignInOrder_nil (wpAny_pure ?_)) (.inr hx)))
  rw [List.set_comm _ _ (Ne.symm hij)] at I5
  exact ⟨_, H1, I5, q1⟩
end
section
variable {X : Cx} {pos : Pos}
def tWhile (c : TT) (tb : TS) : TS := fun D σ H => ∃ W : Nat → St → Hp → Prop, (∃ m, W m σ H) ∧ ∀ m σ H, W m σ H →
  c σ H fun b H1 => if b = true then ∃ N : St → Hp → Prop, (∀ σ' H', N σ' H' → ∃ m', m' < m ∧ W m' σ' H') ∧ tb { D with nx := N, ct := N, bk := D.nx } σ H1 else D.nx σ H1
theorem ps_while {c : Expr} {body : List Stmt} {tc : TT} {tb : TS} (hp : PassesOwn (model X.prog X.w) X.A X.env X.xe) (hc : PT X c tc) (hb : PSs X body tb) : PS X (.While c body [] pos) (tWhile tc tb) := by
  intro pins s σ H D I h
  obtain ⟨W, ⟨m0, w0⟩, turn⟩ := h
  refine wpAny_While (codeAny_whileLoop (fun n s' => ∃ σ' H', Inv X pins σ' H' s' ∧ W n σ' H') ?_ m0 ⟨σ, H, I, w0⟩)
  rintro n s1 ⟨σ1, H1, I1, w1⟩
  refine wpAny_passesOwn hp (thn (hc pins s1 σ1 H1 _ I1 (turn n σ1 H1 w1)) fun b s2 ⟨H2, I2, q2⟩ => ?_)
  cases b with
  | true =>
    obtain ⟨N, hN, q2⟩ := q2
    rw [if_pos rfl]
    refine wpAny_passesOwn hp (thn (hb pins s2 σ1 H2 _ I2 q2) fun f s3 q3 => ?_)
    cases f with
    | next =>
      obtain ⟨σ3, H3, I3, n3⟩ := q3
      obtain ⟨m', hm, w3⟩ := hN σ3 H3 n3
      exact ⟨m', hm, σ3, H3, I3, w3⟩
    | cont =>
      obtain ⟨σ3, H3, I3, n3⟩ := q3
      obtain ⟨m', hm, w3⟩ := hN σ3 H3 n3
      exact ⟨m', hm, σ3, H3, I3, w3⟩
    | brk => exact q3
    | ret v => exact q3
  | false =>
    rw [if_neg Bool.false_ne_true]
    exact wpAny_execs_nil ⟨σ1, H2, I2, q2⟩
end
structure It where
  go : Nat → Hp → Prop
  yld : Nat → Hp → V → Hp → Prop
  stop : Nat → Hp → Prop
def FpOk (X : Cx) (pins : List (Addr × Obj)) (H : Hp) (b : Addr) : Prop :=
  H b = none ∧ b ≠ X.env.locals ∧ b ∉ X.fs ∧ (b ∈ X.ex ∨ X.s_0.heap.objs.size ≤ b) ∧ (∀ x c, X.env.cells.lookup x = some c → c ≠ b) ∧ ∀ p ∈ X.pn ++ pins, p.1 ≠ b
theorem Inv.fpOk {X : Cx} {pins : List (Addr × Obj)} {σ : St} {H H' : Hp} {s : Shared} {b : Addr} (I : Inv X pins σ H s) (hb : s.heap.objs.size ≤ b) (hn : H' b = none) : FpOk X pins H' b := by
  refine ⟨hn, Nat.ne_of_gt (Nat.lt_of_lt_of_le I.lt hb), I.nofs hb, .inr (Nat.le_trans I.sz hb), fun x c e z => ?_, fun p hp z => ?_⟩
  · obtain ⟨v, q⟩ := I.cell x c e
    exact absurd (Nat.lt_of_lt_of_le q.lt (by rw [z]; exact hb)) (Nat.lt_irrefl _)
  · exact absurd (Nat.lt_of_lt_of_le (Heap.lt_size (I.pin p hp).1) (by rw [z]; exact hb)) (Nat.lt_irrefl _)
structure Turn (P : Program) (w : World) (K : PySem.W.Frag) (tg : Expr) (J : It) (fp : List Addr) (it : Addr) (tn : Nat → Heap → Prop) : Prop where
  mem : it ∈ fp
  obj : ∀ i h, tn i h → ∀ b ∈ fp, ∃ o, h.get? b = some o ∧ ∀ v, o.data ≠ .cell v
  keep : ∀ i h h', tn i h → (∀ b ∈ fp, ∀ o, h.get? b = some o → h'.get? b = some o) → tn i h'
  item : ∀ (X : Cx), X.prog = P → X.w = w → X.K = K → X.calm = true → ∀ (i : Nat) (pins : List (Addr × Obj)) (s : Shared) (σ : St) (H : Hp) (E : Value → Shared → Prop), Inv X pins σ H s → (∀ b ∈ fp, FpOk X pins H b) → tn i s.heap → J.go i H →
    wpAny (model P w) X.A (pyNext (.ref it)) (fun r s1 => ∃ u, r = some u ∧
      wpAny (model P w) X.A (letOwnedTupleGo tg (.ref it) u) (fun _ s2 => ∃ x H', Inv X pins σ H' s2 ∧ RelV x u ∧ J.yld i H x H' ∧ tn (i + 1) s2.heap ∧ ∀ b ∈ fp, H' b = none) E s1) E s
  done : ∀ (X : Cx), X.prog = P → X.w = w → X.K = K → X.calm = true → ∀ (i : Nat) (pins : List (Addr × Obj)) (s : Shared) (σ : St) (H : Hp) (E : Value → Shared → Prop), Inv X pins σ H s → (∀ b ∈ fp, FpOk X pins H b) → tn i s.heap → J.stop i H →
    wpAny (model P w) X.A (pyNext (.ref it)) (fun r s1 => r = none ∧ Inv X pins σ H s1) E s
  self : ∀ (A : Around) (i : Nat) (s : Shared) (Q : Value → Shared → Prop) (E : Value → Shared → Prop), tn i s.heap → Q (.ref it) s → wpAny (model P w) A (pyIter (.ref it)) Q E s
abbrev TI := St → Hp → (It → Hp → Prop) → Prop
def PIE (X : Cx) (pins : List (Addr × Obj)) (σ : St) (tg : Expr) (R : It → Hp → Prop) (itv : Value) (s2 : Shared) : Prop :=
  ∃ (it : Addr) (fp : List Addr) (tn : Nat → Heap → Prop) (J : It) (H' : Hp), itv = .ref it ∧ Inv X pins σ H' s2 ∧ Turn X.prog X.w X.K tg J fp it tn ∧ tn 0 s2.heap ∧ (∀ b ∈ fp, FpOk X pins H' b) ∧ R J H'
def PI (X : Cx) (tg iter : Expr) (wi : TI) : Prop :=
  ∀ (pins : List (Addr × Obj)) (s : Shared) (σ : St) (H : Hp) (R : It → Hp → Prop), Inv X pins σ H s → wi σ H R →
    wpAny (model X.prog X.w) X.A (eval iter X.env) (fun v s1 => wpAny (model X.prog X.w) X.A (pyIter v) (PIE X pins σ tg R) X.xe s1) X.xe s
theorem go_of {M : Model} {A : Around} {E : Value → Shared → Prop} {s : Shared} {tg : Expr} {it : Addr} {u : Value} {o : Obj} {n : String} {vs : Array Value} {Q : Unit → Shared → Prop} (ho : s.heap.get? it = some o) (hc : o.cls = .type n) (hd : o.data = .fields vs)
    (hn : ["enumerate", "zip", "dict_itemiterator", "dict_reverseitemiterator", "odict_iterator", "itertools.zip_longest", "itertools.pairwise"].contains n = false) (hQ : Q () s) : wpAny M A (letOwnedTupleGo tg (.ref it) u) Q E s := by
  unfold letOwnedTupleGo
  cases tg <;> first
    | exact wpAny_pure hQ
    | (cases u <;> first
        | exact wpAny_pure hQ
        | (refine wpAny_bind (wpAny_load ho ?_)
           rw [hc, hd]
           show wpAny M A (if (["enumerate", "zip", "dict_itemiterator", "dict_reverseitemiterator", "odict_iterator", "itertools.zip_longest", "itertools.pairwise"].contains n && vs[0]? == some (rawInt _)) = true then _ else _) Q E s
           rw [if_neg (by intro h; rw [hn, Bool.false_and] at h; cases h)]
           exact wpAny_pure hQ))
def Itl (K : PySem.W.Frag) (a : Addr) : It :=
  ⟨fun i H => ∃ xs x, SqL K H a xs ∧ xs[i]? = some x, fun i H x H' => H' = H ∧ ∀ xs, SqL K H a xs → xs[i]? = some x, fun i H => ∃ xs, SqL K H a xs ∧ xs.length ≤ i⟩
def Itt (K : PySem.W.Frag) (a : Addr) : It :=
  ⟨fun i H => ∃ xs x, SqT K H a xs ∧ xs[i]? = some x, fun i H x H' => H' = H ∧ ∀ xs, SqT K H a xs → xs[i]? = some x, fun i H => ∃ xs, SqT K H a xs ∧ xs.length ≤ i⟩
def Itr (lo : Int) (n : Nat) : It := ⟨fun i _ => i < n, fun i H x H' => H' = H ∧ x = .int (lo + i), fun i _ => n ≤ i⟩
theorem turn_list {P : Program} {w : World} {K : PySem.W.Frag} {tg : Expr} (a it : Addr) : Turn P w K tg (Itl K a) [it] it (fun i h => h.IsListIter it a i) where
  mem := by simp
  obj := fun i h st b hb => by
    have e : b = it := by simpa using hb
    subst e
    obtain ⟨o, e, c, d⟩ := st
    exact ⟨o, e, fun v z => by rw [d] at z; cases z⟩
  keep := fun i h h' st k => st.at fun o e => k it (by simp) o e
  item := by
    intro X hP hw hK hc i pins s σ H E I hf st hg
    subst hP hw hK
    obtain ⟨xs, x, hq, hx⟩ := hg
    obtain ⟨its, rv, p, hz⟩ := I.list hq
    obtain ⟨u, hu, ru⟩ := rv.get hx
    obtain ⟨f0, f1, f2, f3, f4, f5⟩ := hf it (by simp)
    refine wpAny_pyNext_list_item st p.isList (x := u) (by simpa using hu) fun h' st' sb => ?_
    have I1 : Inv X pins σ H { s with heap := h' } := I.turned (t' := s.toks) (fun b o hb e => (sb.2 b hb).trans e) f0 f1 f3 f4 f5
    obtain ⟨o, e, c, d⟩ := id st'
    exact ⟨u, rfl, go_of (s := { s with heap := h' }) e c d (by decide) ⟨x, H, I1, ru, ⟨rfl, fun ys hy => by rw [I.list_inj hy hq]; exact hx⟩, st', fun b hb => (hf b hb).1⟩⟩
  done := by
    intro X hP hw hK hc i pins s σ H E I hf st hg
    subst hP hw hK
    obtain ⟨xs, hq, hx⟩ := hg
    obtain ⟨its, rv, p, hz⟩ := I.list hq
    obtain ⟨f0, f1, f2, f3, f4, f5⟩ := hf it (by simp)
    have hl := rv.length
    exact wpAny_pyNext_list_end (I.ok.hd hc) st p.isList (by simp; omega) fun h' eb => ⟨rfl, I.turned (t' := s.toks) (fun b o hb e => eb b o hb e) f0 f1 f3 f4 f5⟩
  self := fun _ _ _ _ _ st h => wpAny_pyIter_listiter st h
theorem turn_tuple {P : Program} {w : World} {K : PySem.W.Frag} {tg : Expr} (a it : Addr) : Turn P w K tg (Itt K a) [it] it (fun i h => h.IsTupleIter it a i) where
  mem := by simp
  obj := fun i h st b hb => by
    have e : b = it := by simpa using hb
    subst e
    obtain ⟨o, e, c, d⟩ := st
    exact ⟨o, e, fun v z => by rw [d] at z; cases z⟩
  keep := fun i h h' st k => st.at fun o e => k it (by simp) o e
  item := by
    intro X hP hw hK hc i pins s σ H E I hf st hg
    subst hP hw hK
    obtain ⟨xs, x, hq, hx⟩ := hg
    obtain ⟨its, rv, p, hz⟩ := I.tuple hq
    obtain ⟨u, hu, ru⟩ := rv.get hx
    obtain ⟨f0, f1, f2, f3, f4, f5⟩ := hf it (by simp)
    refine wpAny_pyNext_tuple_item st (show s.heap.IsTuple a its.toArray from p) (x := u) (by simpa using hu) fun h' st' sb => ?_
    have I1 : Inv X pins σ H { s with heap := h' } := I.turned (t' := s.toks) (fun b o hb e => (sb.2 b hb).trans e) f0 f1 f3 f4 f5
    obtain ⟨o, e, c, d⟩ := id st'
    exact ⟨u, rfl, go_of (s := { s with heap := h' }) e c d (by decide) ⟨x, H, I1, ru, ⟨rfl, fun ys hy => by rw [I.tuple_inj hy hq]; exact hx⟩, st', fun b hb => (hf b hb).1⟩⟩
  done := by
    intro X hP hw hK hc i pins s σ H E I hf st hg
    subst hP hw hK
    obtain ⟨xs, hq, hx⟩ := hg
    obtain ⟨its, rv, p, hz⟩ := I.tuple hq
    obtain ⟨f0, f1, f2, f3, f4, f5⟩ := hf it (by simp)
    have hl := rv.length
    exact wpAny_pyNext_tuple_end (I.ok.hd hc) st (show s.heap.IsTuple a its.toArray from p) (by simp; omega) fun h' eb => ⟨rfl, I.turned (t' := s.toks) (fun b o hb e => eb b o hb e) f0 f1 f3 f4 f5⟩
  self := fun _ _ _ _ _ st h => wpAny_pyIter_tupleiter st h
theorem turn_range {P : Program} {w : World} {K : PySem.W.Frag} {tg : Expr} (it : Addr) (lo : Int) (n : Nat) : Turn P w K tg (Itr lo n) [it] it (fun i h => IsRangeIter h it (lo + (i : Nat) * 1) ((n : Int) - (i : Nat)) 1) where
  mem := by simp
  obj := fun i h st b hb => by
    have e : b = it := by simpa using hb
    subst e
    exact ⟨_, st, fun v z => by
      have z' : Data.fields _ = Data.cell v := z
      cases z'⟩
  keep := fun i h h' st k => k it (by simp) _ st
  item := by
    intro X hP hw hK hc i pins s σ H E I hf st hg
    subst hP hw hK
    obtain ⟨f0, f1, f2, f3, f4, f5⟩ := hf it (by simp)
    have W := Walks.range (prog := X.prog) (w := X.w) (I.ok.hd hc) it lo 1 n
    refine W.item i s _ _ hg st fun v h' tk hv st' kk => ?_
    obtain ⟨t, rfl⟩ := hv
    have I1 : Inv X pins σ H { s with heap := h', toks := tk } := I.turned (fun b o hb e => kk b o (by simpa using hb) e) f0 f1 f3 f4 f5
    refine ⟨_, rfl, go_of (s := { s with heap := h', toks := tk }) (n := "range_iterator") st' rfl rfl (by decide) ⟨.int (lo + i), H, I1, ⟨t, ?_⟩, ⟨rfl, rfl⟩, st', fun b hb => (hf b hb).1⟩⟩
    rw [Int.mul_one]
  done := by
    intro X hP hw hK hc i pins s σ H E I hf st hg
    subst hP hw hK
    obtain ⟨f0, f1, f2, f3, f4, f5⟩ := hf it (by simp)
    exact wpAny_pyNext_range_end (I.ok.hd hc) st (by have : n ≤ i := hg; omega) fun h' eb => ⟨rfl, I.turned (t' := s.toks) (fun b o hb e => eb b o hb e) f0 f1 f3 f4 f5⟩
  self := fun _ _ _ _ _ st h => wpAny_pyIter_rangeiter st h
end L2
namespace L2
open PySem PySem.Spec PyProof.Rows
section
variable {X : Cx} {tg : Expr}
def iList (K : PySem.W.Frag) (tl : TE) : TI := fun σ H R => tl σ H fun x H1 => ∃ a, x = .ref a ∧ (∃ xs, SqL K H1 a xs) ∧ R (Itl K a) H1
def iTup (K : PySem.W.Frag) (tl : TE) : TI := fun σ H R => tl σ H fun x H1 => ∃ a, x = .ref a ∧ (∃ xs, SqT K H1 a xs) ∧ R (Itt K a) H1
theorem pi_list {l : Expr} {tl : TE} (hl : PE X l tl) : PI X tg l (iList X.K tl) := by
  intro pins s σ H R I h
  refine thn (hl pins s σ H _ I h) fun v s1 ⟨x, H1, I1, r1, q1⟩ => ?_
  obtain ⟨a, e, ⟨xs, hq⟩, q⟩ := q1
  subst e
  cases r1
  obtain ⟨its, rv, p, hz⟩ := I1.list hq
  refine wpAny_pyIter_list p.isList ?_
  refine ⟨s1.heap.objs.size, [s1.heap.objs.size], _, _, H1, rfl, I1.kept (t' := s1.toks) fun b o e => Heap.get?_push_of_some _ e, turn_list a _, ⟨_, Heap.get?_push_size _ rfl, rfl, rfl⟩, fun b hb => ?_, q⟩
  have e : b = s1.heap.objs.size := by simpa using hb
  subst e
  exact I1.fpOk (Nat.le_refl _) (I1.hok.fresh (Nat.le_refl _))
theorem pi_tup {l : Expr} {tl : TE} (hl : PE X l tl) : PI X tg l (iTup X.K tl) := by
  intro pins s σ H R I h
  refine thn (hl pins s σ H _ I h) fun v s1 ⟨x, H1, I1, r1, q1⟩ => ?_
  obtain ⟨a, e, ⟨xs, hq⟩, q⟩ := q1
  subst e
  cases r1
  obtain ⟨its, rv, p, hz⟩ := I1.tuple hq
  refine wpAny_pyIter_tuple (show s1.heap.IsTuple a its.toArray from p) ?_
  refine ⟨s1.heap.objs.size, [s1.heap.objs.size], _, _, H1, rfl, I1.kept (t' := s1.toks) fun b o e => Heap.get?_push_of_some _ e, turn_tuple a _, ⟨_, Heap.get?_push_size _ rfl, rfl, rfl⟩, fun b hb => ?_, q⟩
  have e : b = s1.heap.objs.size := by simpa using hb
  subst e
  exact I1.fpOk (Nat.le_refl _) (I1.hok.fresh (Nat.le_refl _))
theorem range_it {pins : List (Addr × Obj)} {σ : St} {H : Hp} {s : Shared} {R : It → Hp → Prop} {E : Value → Shared → Prop} {lo hi : Int} {t u v : Tok} {tk : Nat} (I : Inv X pins σ H s) (h1 : -(2 ^ 62) ≤ lo) (h2 : lo < 2 ^ 62) (h3 : -(2 ^ 62) ≤ hi) (h4 : hi < 2 ^ 62)
    (q : R (Itr lo (hi - lo).toNat) H) : wpAny (model X.prog X.w) X.A (pyIter (.ref s.heap.objs.size)) (PIE X pins σ tg R) E { s with heap := s.heap.push { cls := .type "range", data := .fields #[.int lo t, .int hi u, .int 1 v] }, toks := tk } := by
  refine wpAny_pyIter_range (IsRange.new ..) (small_one h1 h2 h3 h4) ?_
  have I1 : Inv X pins σ H { s with heap := s.heap.push { cls := .type "range", data := .fields #[.int lo t, .int hi u, .int 1 v] }, toks := tk } := I.kept fun b o e => Heap.get?_push_of_some _ e
  refine ⟨(s.heap.push { cls := .type "range", data := .fields #[.int lo t, .int hi u, .int 1 v] }).objs.size, [(s.heap.push { cls := .type "range", data := .fields #[.int lo t, .int hi u, .int 1 v] }).objs.size], _, _, H, rfl,
    I1.kept (t' := tk) fun b o e => Heap.get?_push_of_some _ e, turn_range _ lo (hi - lo).toNat, ?_, fun b hb => ?_, q⟩
  · have e1 : lo + ((0 : Nat) : Int) * 1 = lo := by simp
    have e2 : (((hi - lo).toNat : Nat) : Int) - ((0 : Nat) : Int) = Builtin.Range.rangeSize lo hi 1 := by rw [rangeSize_one]; split <;> omega
    show IsRangeIter _ _ (lo + ((0 : Nat) : Int) * 1) ((((hi - lo).toNat : Nat) : Int) - ((0 : Nat) : Int)) 1
    rw [e1, e2]
    exact Heap.get?_push_size _ rfl
  · have e : b = (s.heap.push { cls := .type "range", data := .fields #[.int lo t, .int hi u, .int 1 v] }).objs.size := by simpa using hb
    subst e
    exact I1.fpOk (Nat.le_refl _) (I1.hok.fresh (Nat.le_refl _))
def iRng1 (ta : TA) : TI := fun σ H R => ta σ H fun vs H1 => ∃ j : Int, vs = [.int j] ∧ -(2 ^ 62) ≤ j ∧ j < 2 ^ 62 ∧ R (Itr 0 j.toNat) H1
theorem pi_range1 {a : Expr} {ta : TA} {p pos : Pos} (hg : Gl X "range") (hm : X.mg "range" = none) (ha : PA X [a] ta) (hs : starEach [a] X.env = [(false, eval a X.env)] := by rfl) : PI X tg (.Call (.Name "range" p) [a] [] pos) (iRng1 ta) := by
  intro pins s σ H R I h
  refine Call_ (ld_blt I hg hm boot_range (PyProof.Rows.callWith_type1 (thn (ha pos pins s σ H _ I h) fun us s1 ⟨vs, H1, I1, r1, q1⟩ => ?_) hs rfl))
  obtain ⟨j, e, q1, q2, q⟩ := q1
  subst e
  cases r1 with
  | cons r rr =>
    cases rr
    obtain ⟨t, rfl⟩ := r
    exact call_range_1 (range_it I1 (by omega) (by omega) q1 q2 (by simpa using q))
def tFor (wi : TI) (g : TG) (tb : TS) : TS := fun D σ H => wi σ H fun J H1 => ∃ W : Nat → Nat → St → Hp → Prop, (∃ m, W 0 m σ H1) ∧ ∀ i m σ H, W i m σ H →
  (J.stop i H ∧ D.nx σ H) ∨ (J.go i H ∧ ∃ N : St → Hp → Prop, (∀ σ' H', N σ' H' → ∃ m', m' < m ∧ W (i + 1) m' σ' H') ∧ ∀ x H', J.yld i H x H' → g x σ H' fun σ2 H2 => tb { D with nx := N, ct := N, bk := D.nx } σ2 H2)
def pinsAt (fp : List Addr) (h : Heap) : List (Addr × Obj) := fp.filterMap fun b => (h.get? b).map fun o => (b, o)
theorem mem_pinsAt {fp : List Addr} {h : Heap} {b : Addr} {o : Obj} (hb : b ∈ fp) (e : h.get? b = some o) : (b, o) ∈ pinsAt fp h := List.mem_filterMap.mpr ⟨b, hb, by rw [e]; rfl⟩
theorem of_pinsAt {fp : List Addr} {h : Heap} {p : Addr × Obj} (hp : p ∈ pinsAt fp h) : p.1 ∈ fp ∧ h.get? p.1 = some p.2 := by
  obtain ⟨b, hb, e⟩ := List.mem_filterMap.mp hp
  cases q : h.get? b with
  | none => rw [q] at e; cases e
  | some o =>
    rw [q] at e
    have e' : (b, o) = p := Option.some.inj e
    subst e'
    exact ⟨hb, q⟩
theorem Inv.pinned {pins : List (Addr × Obj)} {σ : St} {H : Hp} {s : Shared} {fp : List Addr} (I : Inv X pins σ H s) (hf : ∀ b ∈ fp, FpOk X pins H b) (ho : ∀ b ∈ fp, ∃ o, s.heap.get? b = some o ∧ ∀ v, o.data ≠ .cell v) : Inv X (pins ++ pinsAt fp s.heap) σ H s :=
  I.pins_of fun p hp => (List.mem_append.mp hp).elim (fun z => I.pin p (List.mem_append_right _ z)) fun z => by
    obtain ⟨hb, e⟩ := of_pinsAt z
    obtain ⟨f0, f1, f2, _⟩ := hf p.1 hb
    obtain ⟨o, e', d⟩ := ho p.1 hb
    rw [e] at e'; cases e'
    exact ⟨e, f0, f1, f2, d⟩
theorem Inv.unpinned {pins pl : List (Addr × Obj)} {σ : St} {H : Hp} {s : Shared} (I : Inv X (pins ++ pl) σ H s) : Inv X pins σ H s := I.pins_of fun p hp => I.pin p (List.mem_append_right _ (List.mem_append_left _ hp))
theorem ps_for {iter : Expr} {body : List Stmt} {wi : TI} {g : TG} {tb : TS} {pos : Pos} (hp : PassesOwn (model X.prog X.w) X.A X.env X.xe) (hc : X.calm = true) (hi : PI X tg iter wi) (hg : PG X tg g) (hb : PSs X body tb)
    (hs : ∀ x, foldedSetIterable iter X.env x = pure x := by intro _; rfl) : PS X (.For tg iter body [] pos) (tFor wi g tb) := by
  intro pins s σ H D I h
  refine wpAny_For (thn (hi pins s σ H _ I h) fun v s1 h1 => thn h1 fun itv s2 h2 => ?_) hs
  obtain ⟨it, fp, tn, J, H2, e, I2, T, st2, f2, W, ⟨m0, w0⟩, turn⟩ := h2
  subst e
  -- what stays true of the iterator's objects through the loop
  have stat : ∀ {H' : Hp}, (∀ b ∈ fp, H' b = none) → ∀ b ∈ fp, FpOk X pins H' b := fun hn b hb => ⟨hn b hb, (f2 b hb).2⟩
  refine codeAny_forLoop_any (fun n s' => ∃ i σ' H', Inv X pins σ' H' s' ∧ tn i s'.heap ∧ (∀ b ∈ fp, H' b = none) ∧ W i n σ' H') ?_ m0 ⟨0, σ, H2, I2, st2, fun b hb => (f2 b hb).1, w0⟩
  rintro n s3 ⟨i, σ3, H3, I3, st3, fr3, w3⟩
  rcases turn i n σ3 H3 w3 with ⟨stop, qn⟩ | ⟨go, N, hN, step⟩
  · refine wpAny_passesOwn hp (thn (T.done X rfl rfl rfl hc i pins s3 σ3 H3 X.xe I3 (stat fr3) st3 stop) fun r s4 ⟨hr, I4⟩ => ?_)
    subst hr
    exact wpAny_execs_nil ⟨σ3, H3, I4, qn⟩
  · refine wpAny_passesOwn hp (thn (T.item X rfl rfl rfl hc i pins s3 σ3 H3 X.xe I3 (stat fr3) st3 go) fun r s4 ⟨u, hr, h4⟩ => ?_)
    subst hr
    refine wpAny_passesOwn hp (thn h4 fun _ s5 ⟨x, H5, I5, r5, y5, st5, fr5⟩ => ?_)
    have I5' := I5.pinned (stat fr5) (T.obj _ _ st5)
    refine wpAny_passesOwn hp (thn (hg _ s5 σ3 H5 x u _ I5' r5 (step x H5 y5)) fun _ s6 ⟨σ6, H6, I6, q6⟩ => ?_)
    refine wpAny_passesOwn hp (thn (hb _ s6 σ6 H6 _ I6 q6) fun f s7 q7 => ?_)
    have again : ∀ {σ7 : St} {H7 : Hp}, Inv X (pins ++ pinsAt fp s5.heap) σ7 H7 s7 → N σ7 H7 → ∃ m, m < n ∧ ∃ i σ' H', Inv X pins σ' H' s7 ∧ tn i s7.heap ∧ (∀ b ∈ fp, H' b = none) ∧ W i m σ' H' := fun {σ7 H7} I7 n7 => by
      obtain ⟨m', hm, w7⟩ := hN σ7 H7 n7
      refine ⟨m', hm, i + 1, σ7, H7, I7.unpinned, T.keep _ _ _ st5 fun b hb o e => (I7.pin (b, o) (List.mem_append_right _ (List.mem_append_right _ (mem_pinsAt hb e)))).1, fun b hb => ?_, w7⟩
      obtain ⟨o, e, d⟩ := T.obj _ _ st5 b hb
      exact (I7.pin (b, o) (List.mem_append_right _ (List.mem_append_right _ (mem_pinsAt hb e)))).2.1
    cases f with
    | next => obtain ⟨σ7, H7, I7, n7⟩ := q7; exact again I7 n7
    | cont => obtain ⟨σ7, H7, I7, n7⟩ := q7; exact again I7 n7
    | brk => obtain ⟨σ7, H7, I7, q7⟩ := q7; exact ⟨σ7, H7, I7.unpinned, q7⟩
    | ret v => obtain ⟨x7, σ7, H7, I7, r7, q7⟩ := q7; exact ⟨x7, σ7, H7, I7.unpinned, r7, q7⟩
end
end L2
namespace L2
open PySem PySem.Spec PyProof.Rows
abbrev R2 := V → V → Hp → VK → Prop
def OpR (X : Cx) (f : Value → Value → Sem Value) (r : R2) : Prop :=
  ∀ (pins : List (Addr × Obj)) (s : Shared) (σ : St) (H : Hp) (x y : V) (v u : Value) (Q : VK), Inv X pins σ H s → RelV x v → RelV y u → r x y H Q →
    wpAny (model X.prog X.w) X.A (f v u) (EP X pins σ Q) X.xe s
def UnR (X : Cx) (f : Value → Sem Value) (r : V → Hp → VK → Prop) : Prop :=
  ∀ (pins : List (Addr × Obj)) (s : Shared) (σ : St) (H : Hp) (x : V) (v : Value) (Q : VK), Inv X pins σ H s → RelV x v → r x H Q →
    wpAny (model X.prog X.w) X.A (f v) (EP X pins σ Q) X.xe s
def CallR (X : Cx) (f : Value) (r : List V → Hp → VK → Prop) : Prop :=
  ∀ (pins : List (Addr × Obj)) (s : Shared) (σ : St) (H : Hp) (xs : List V) (us : List Value) (Q : VK), Inv X pins σ H s → Vals xs us → r xs H Q →
    wpAny (model X.prog X.w) X.A (call f us) (EP X pins σ Q) X.xe s
def TruR (X : Cx) (r : V → Hp → (Bool → Hp → Prop) → Prop) : Prop :=
  ∀ (pins : List (Addr × Obj)) (s : Shared) (σ : St) (H : Hp) (x : V) (v : Value) (Q : Bool → Hp → Prop), Inv X pins σ H s → RelV x v → r x H Q →
    wpAny (model X.prog X.w) X.A (truthy v) (TP X pins σ Q) X.xe s
def tOp (r : R2) (ta tb : TE) : TE := fun σ H Q => ta σ H fun x H1 => tb σ H1 fun y H2 => r x y H2 Q
def tUn (r : V → Hp → VK → Prop) (ta : TE) : TE := fun σ H Q => ta σ H fun x H1 => r x H1 Q
def rI (C : Int → Int → Prop) (g : Int → Int → V) : R2 := fun x y H Q => ∃ i j, x = .int i ∧ y = .int j ∧ C i j ∧ Q (g i j) H
def rI0 (g : Int → Int → V) : R2 := fun x y H Q => ∃ i j, x = .int i ∧ y = .int j ∧ Q (g i j) H
def rU (g : Int → V) : V → Hp → VK → Prop := fun x H Q => ∃ i, x = .int i ∧ Q (g i) H
section
variable {X : Cx} {a b c : Expr} {ta tb tc : TE} {pos : Pos}
theorem binT (ha : PE X a ta) (hb : PE X b tb) {pins : List (Addr × Obj)} {s : Shared} {σ : St} {H : Hp} {R : V → V → Hp → Prop} (I : Inv X pins σ H s)
    (h : ta σ H fun x H1 => tb σ H1 fun y H2 => R x y H2) {Q : Value → Shared → Prop} {f : Value → Value → Sem Value}
    (hf : ∀ v u s2 x y H2, Inv X pins σ H2 s2 → RelV x v → RelV y u → R x y H2 → wpAny (model X.prog X.w) X.A (f v u) Q X.xe s2) :
    wpAny (model X.prog X.w) X.A (eval a X.env) (fun v s₁ => wpAny (model X.prog X.w) X.A (eval b X.env) (fun u s₂ => wpAny (model X.prog X.w) X.A (f v u) Q X.xe s₂) X.xe s₁) X.xe s := by
  refine thn (ha pins s σ H _ I h) fun v s1 ⟨x, H1, I1, r1, q1⟩ => ?_
  refine thn (hb pins s1 σ H1 _ I1 q1) fun u s2 ⟨y, H2, I2, r2, q2⟩ => ?_
  exact hf v u s2 x y H2 I2 r1 r2 q2
theorem pe_op {op : Operator} {r : R2} (ho : OpR X (binaryOp op) r) (ha : PE X a ta) (hb : PE X b tb) : PE X (.BinOp a op b pos) (tOp r ta tb) := by
  intro pins s σ H Q I h
  exact wpAny_BinOp (binT ha hb I h fun v u s2 x y H2 I2 rx ry q => ho pins s2 σ H2 x y v u Q I2 rx ry q)
theorem pe_un {op : UnaryOp} {r : V → Hp → VK → Prop} (ho : UnR X (unaryOp op) r) (ha : PE X a ta) : PE X (.UnaryOp op a pos) (tUn r ta) := by
  intro pins s σ H Q I h
  exact UnaryOp_ (thn (ha pins s σ H _ I h) fun v s1 ⟨x, H1, I1, r1, q1⟩ => ho pins s1 σ H1 x v Q I1 r1 q1)
theorem opI {f : Value → Value → Sem Value} {C : Int → Int → Prop} {g : Int → Int → Int}
    (rule : ∀ (i j : Int) (t u : Tok) (s : Shared) (Q : Value → Shared → Prop) (E : Value → Shared → Prop), C i j → Q (.int (g i j) s.toks) { s with toks := s.toks + 1 } → wpAny (model X.prog X.w) X.A (f (.int i t) (.int j u)) Q E s) :
    OpR X f (rI C fun i j => .int (g i j)) := by
  intro pins s σ H x y v u Q I rx ry h
  obtain ⟨i, j, rfl, rfl, hc, q⟩ := h
  obtain ⟨t, rfl⟩ := rx
  obtain ⟨t', rfl⟩ := ry
  exact rule i j t t' s _ _ hc ⟨.int (g i j), H, I.tok _, ⟨_, rfl⟩, q⟩
theorem opI0 {f : Value → Value → Sem Value} {g : Int → Int → Int}
    (rule : ∀ (i j : Int) (t u : Tok) (s : Shared) (Q : Value → Shared → Prop) (E : Value → Shared → Prop), Q (.int (g i j) s.toks) { s with toks := s.toks + 1 } → wpAny (model X.prog X.w) X.A (f (.int i t) (.int j u)) Q E s) :
    OpR X f (rI0 fun i j => .int (g i j)) := by
  intro pins s σ H x y v u Q I rx ry h
  obtain ⟨i, j, rfl, rfl, q⟩ := h
  obtain ⟨t, rfl⟩ := rx
  obtain ⟨t', rfl⟩ := ry
  exact rule i j t t' s _ _ ⟨.int (g i j), H, I.tok _, ⟨_, rfl⟩, q⟩
def CDiv (i j : Int) : Prop := 0 < j ∧ j < 1073741824
def CMul (i j : Int) : Prop := (-(2 ^ 64) < i ∧ i < 2 ^ 64) ∨ (-(2 ^ 64) < j ∧ j < 2 ^ 64)
theorem CMul.ok {i j : Int} (h : CMul i j) : IntMulOk i j := by
  rcases h with ⟨h1, h2⟩ | ⟨h1, h2⟩
  · exact .of_left (intBits_le_64 h1 h2)
  · exact .of_right (intBits_le_64 h1 h2)
theorem op_add : OpR X (binaryOp .Add) (rI0 fun i j => .int (i + j)) := opI0 fun _ _ _ _ _ _ _ q => add_int q
theorem op_sub : OpR X (binaryOp .Sub) (rI0 fun i j => .int (i - j)) := opI0 fun _ _ _ _ _ _ _ q => sub_int q
theorem op_mul : OpR X (binaryOp .Mult) (rI CMul fun i j => .int (i * j)) := opI fun _ _ _ _ _ _ _ hc q => mul_int q hc.ok
theorem op_fdiv : OpR X (binaryOp .FloorDiv) (rI CDiv fun i j => .int (i / j)) := opI fun i j _ _ _ _ _ hc q => by
  have h1 : (0 : Int) < j := hc.1
  have h2 : j < 1073741824 := hc.2
  exact floordiv_int (by omega) (by rw [Int.fdiv_eq_ediv_of_nonneg i (by omega)]; exact q) (.inl (PyProof.noPylong_small (by omega)))
theorem op_mod : OpR X (binaryOp .Mod) (rI (fun _ j => 0 < j) fun i j => .int (i % j)) := opI fun i j _ _ _ _ _ hc q => by
  have h1 : (0 : Int) < j := hc
  exact mod_int' (by omega) (by rw [Int.fmod_eq_emod_of_nonneg i (by omega)]; exact q)
theorem unI {f : Value → Sem Value} {g : Int → Int}
    (rule : ∀ (i : Int) (t : Tok) (s : Shared) (Q : Value → Shared → Prop) (E : Value → Shared → Prop), Q (.int (g i) s.toks) { s with toks := s.toks + 1 } → wpAny (model X.prog X.w) X.A (f (.int i t)) Q E s) :
    UnR X f (rU fun i => .int (g i)) := by
  intro pins s σ H x v Q I rx h
  obtain ⟨i, rfl, q⟩ := h
  obtain ⟨t, rfl⟩ := rx
  exact rule i t s _ _ ⟨.int (g i), H, I.tok _, ⟨_, rfl⟩, q⟩
theorem un_neg : UnR X (unaryOp .USub) (rU fun i => .int (-i)) := unI fun _ _ _ _ _ q => neg_int q
end
section
variable {X : Cx} {a b c : Expr} {ta tb tc : TE} {pos : Pos}
theorem OpR.or {f : Value → Value → Sem Value} {r r' : R2} (h : OpR X f r) (h' : OpR X f r') : OpR X f (fun x y H Q => r x y H Q ∨ r' x y H Q) := by
  intro pins s σ H x y v u Q I rx ry q
  rcases q with q | q
  · exact h pins s σ H x y v u Q I rx ry q
  · exact h' pins s σ H x y v u Q I rx ry q
theorem nomark (b : Expr) {op : CmpOp} (h : op ≠ .In := by decide) (h2 : op ≠ .NotIn := by decide) : behindInMarks op b = false := by
  have e1 : (op == CmpOp.In) = false := by cases op <;> first | rfl | exact absurd rfl h
  have e2 : (op == CmpOp.NotIn) = false := by cases op <;> first | rfl | exact absurd rfl h2
  cases b <;> simp [behindInMarks, e1, e2]
theorem pe_cmpR {op : CmpOp} {r : R2} (ho : OpR X (compareOp op) r) (ha : PE X a ta) (hb : PE X b tb) (hm : behindInMarks op b = false) : PE X (.Compare a [op] [b] pos) (tOp r ta tb) := by
  intro pins s σ H Q I h
  exact wpAny_Compare1 (binT ha hb I h fun v u s2 x y H2 I2 rx ry q => ho pins s2 σ H2 x y v u Q I2 rx ry q) hm
def tTest (t : TE) : TT := fun σ H Q => t σ H fun x H' => ∃ k, x = .bl k ∧ Q k H'
theorem pt_cmpR {op : CmpOp} {r : R2} (ho : OpR X (compareOp op) r) (ha : PE X a ta) (hb : PE X b tb) (hm : behindInMarks op b = false) : PT X (.Compare a [op] [b] pos) (tTest (tOp r ta tb)) := by
  intro pins s σ H Q I h
  refine wpAny_isTrue_Compare1 (thn (ha pins s σ H _ I h) fun v s1 ⟨x, H1, I1, r1, q1⟩ => thn (hb pins s1 σ H1 _ I1 q1) fun u s2 ⟨y, H2, I2, r2, q2⟩ =>
    thn (ho pins s2 σ H2 x y v u _ I2 r1 r2 q2) fun c s3 ⟨z, H3, I3, r3, k, e, q3⟩ => ?_) hm
  subst e
  cases r3
  exact wpAny_truthy_bool ⟨H3, I3, q3⟩
def TruV (K : PySem.W.Frag) (x : V) (H : Hp) (k : Bool) : Prop :=
  match x with
  | .non => k = false
  | .bl b => k = b
  | .int i => k = (i != 0)
  | .str y => y.length ≤ sizeLine ∧ k = ((y.length : Int) != 0)
  | .byt y => y.size ≤ sizeLine ∧ k = ((y.size : Int) != 0)
  | .ref p => (∃ xs, SqL K H p xs ∧ k = !xs.isEmpty) ∨ (∃ xs, SqT K H p xs ∧ k = !xs.isEmpty) ∨ ∃ kvs, H p = some (.dK kvs) ∧ k = !kvs.isEmpty
  | _ => False
theorem isEmpty_kv {κ : Type} {kvs : List (κ × V)} {vs : List (κ × Value)} (r : KV kvs vs) : (!vs.isEmpty) = !kvs.isEmpty := by
  cases r <;> rfl
theorem isEmpty_of {xs : List V} {its : List Value} (r : Vals xs its) : (!its.toArray.isEmpty) = !xs.isEmpty := by
  cases r <;> simp
theorem line63 : (sizeLine : Nat) < 2 ^ 63 := by rw [sizeLine_eq]; decide
theorem tru_ok : TruR X (fun x H Q => ∃ k, TruV X.K x H k ∧ Q k H) := by
  intro pins s σ H x v Q I rx h
  obtain ⟨k, e, q⟩ := h
  have hl := line63
  have hs : sizeLine = 16777216 := sizeLine_eq
  cases x with
  | non =>
    cases rx
    have e' : k = false := e
    subst e'
    exact truthy_none ⟨H, I, q⟩
  | bl b =>
    cases rx
    have e' : k = b := e
    subst e'
    exact wpAny_truthy_bool ⟨H, I, q⟩
  | int i =>
    obtain ⟨t, rfl⟩ := rx
    have e' : k = (i != 0) := e
    subst e'
    exact PySem.P.truthy_int ⟨H, I, q⟩
  | str y =>
    obtain ⟨t, rfl⟩ := rx
    obtain ⟨hy, e'⟩ : y.length ≤ sizeLine ∧ k = ((y.length : Int) != 0) := e
    subst e'
    exact PySem.P.truthy_str (by omega) ⟨H, I.tok _, q⟩
  | byt y =>
    obtain ⟨t, rfl⟩ := rx
    obtain ⟨hy, e'⟩ : y.size ≤ sizeLine ∧ k = ((y.size : Int) != 0) := e
    subst e'
    exact PySem.W.truthy_bytes (by omega) ⟨H, I.tok _, q⟩
  | ref p =>
    cases rx
    have e' : (∃ xs, SqL X.K H p xs ∧ k = !xs.isEmpty) ∨ (∃ xs, SqT X.K H p xs ∧ k = !xs.isEmpty) ∨ ∃ kvs, H p = some (.dK kvs) ∧ k = !kvs.isEmpty := e
    rcases e' with ⟨xs, hx, e'⟩ | ⟨xs, hx, e'⟩ | ⟨kvs, hx, e'⟩
    · subst e'
      obtain ⟨its, r, pl, hz⟩ := I.list hx
      have hlen := r.length
      exact wpAny_truthy_list pl.isList (by simp only [List.size_toArray]; omega) ⟨H, I.tok _, by rw [isEmpty_of r]; exact q⟩
    · subst e'
      obtain ⟨its, r, pl, hz⟩ := I.tuple hx
      have hlen := r.length
      exact truthy_tuple pl (by simp only [List.size_toArray]; omega) ⟨H, I.tok _, by rw [isEmpty_of r]; exact q⟩
    · subst e'
      obtain ⟨hz, hS, vs, r, m⟩ : kvs.length ≤ sizeLine ∧ (p == sysModules) = false ∧ ∃ vs, KV kvs vs ∧ s.heap.DictOf (mixKind X.prog X.w) p vs := I.hok p _ hx
      have hlen : kvs.length = vs.length := Paired.length r
      exact wpAny_truthy_dict hS m (by omega) ⟨H, I.tok _, by rw [isEmpty_kv r]; exact q⟩
  | _ => exact (show False from e).elim
theorem pt_truth (ha : PE X a ta) (he : ∀ whole, isTrue a X.env whole = (do let v ← whole; standAt a.pos; holding [v] (truthy v))) :
    PT X a (fun σ H Q => ta σ H fun x H' => ∃ k, TruV X.K x H' k ∧ Q k H') := by
  intro pins s σ H Q I h
  exact isTrue_plain (thn (ha pins s σ H _ I h) fun v s1 ⟨x, H1, I1, r1, q1⟩ => tru_ok pins s1 σ H1 x v Q I1 r1 q1) (he _)
theorem op_add_str : OpR X (binaryOp .Add) (fun x y H Q => ∃ i j, x = .str i ∧ y = .str j ∧ i.length + j.length ≤ sizeLine ∧ Q (.str (i ++ j)) H) := by
  intro pins s σ H x y v u Q I rx ry h
  obtain ⟨i, j, rfl, rfl, hz, q⟩ := h
  obtain ⟨t, rfl⟩ := rx
  obtain ⟨t', rfl⟩ := ry
  exact add_str (fun t' tk => ⟨.str (i ++ j), H, I.tok _, ⟨_, rfl⟩, q⟩) hz
theorem vals1 {x : V} {us : List Value} (r : Vals [x] us) : ∃ u, us = [u] ∧ RelV x u := by
  cases r with
  | cons r1 r2 => cases r2; exact ⟨_, rfl, r1⟩
theorem vals2 {x y : V} {us : List Value} (r : Vals [x, y] us) : ∃ u w', us = [u, w'] ∧ RelV x u ∧ RelV y w' := by
  cases r with
  | cons r1 r2 =>
    cases r2 with
    | cons r3 r4 => cases r4; exact ⟨_, _, rfl, r1, r3⟩
def LenV (K : PySem.W.Frag) (x : V) (H : Hp) (n : Nat) : Prop :=
  match x with
  | .str y => y.length ≤ sizeLine ∧ n = y.length
  | .byt y => y.size ≤ sizeLine ∧ n = y.size
  | .ref p => (∃ xs, SqL K H p xs ∧ n = xs.length) ∨ ∃ xs, SqT K H p xs ∧ n = xs.length
  | _ => False
theorem call_len : CallR X (.builtin "len") (fun xs H Q => ∃ x n, xs = [x] ∧ LenV X.K x H n ∧ Q (.int n) H) := by
  intro pins s σ H xs us Q I r h
  obtain ⟨x, n, rfl, e, q⟩ := h
  obtain ⟨u, rfl, rx⟩ := vals1 r
  have hl := line63
  have hs : sizeLine = 16777216 := sizeLine_eq
  cases x with
  | str y =>
    obtain ⟨t, rfl⟩ := rx
    obtain ⟨hy, e'⟩ : y.length ≤ sizeLine ∧ n = y.length := e
    subst e'
    exact len_str (by omega) ⟨.int _, H, I.tok _, ⟨_, rfl⟩, q⟩
  | byt y =>
    obtain ⟨t, rfl⟩ := rx
    obtain ⟨hy, e'⟩ : y.size ≤ sizeLine ∧ n = y.size := e
    subst e'
    exact PySem.W.len_bytes (by omega) ⟨.int _, H, I.tok _, ⟨_, rfl⟩, q⟩
  | ref p =>
    cases rx
    have e' : (∃ xs, SqL X.K H p xs ∧ n = xs.length) ∨ ∃ xs, SqT X.K H p xs ∧ n = xs.length := e
    rcases e' with ⟨xs, hx, e'⟩ | ⟨xs, hx, e'⟩
    · subst e'
      obtain ⟨its, r', pl, hz⟩ := I.list hx
      have hlen := r'.length
      exact Calls.call_len_list pl.isList (by simp only [List.size_toArray]; omega) ⟨.int xs.length, H, I.tok _, ⟨_, by simp only [List.size_toArray]; rw [hlen]⟩, q⟩
    · subst e'
      obtain ⟨its, r', pl, hz⟩ := I.tuple hx
      have hlen := r'.length
      exact len_tuple pl (by simp only [List.size_toArray]; omega) ⟨.int xs.length, H, I.tok _, ⟨_, by simp only [List.size_toArray]; rw [hlen]⟩, q⟩
  | _ => exact (show False from e).elim
end
end L2
namespace L2
open PySem PySem.Spec PyProof.Rows
structure ObjM (h : Heap) (x dx C : Addr) (mA : Str → Option Value) : Prop where
  obj : h.get? x = some (PySem.W.instObj C dx)
  ns : h.Ns1 dx mA
  ne : dx ≠ x
theorem lookIn_ns {h : Heap} {dx : Addr} {mA : Str → Option Value} (n : h.Ns1 dx mA) : ∃ od, h.get? dx = some od ∧ ∀ name, PySem.W.lookIn name od = some (mA name) := by
  obtain ⟨o, es, ep, ho, hd, hk, _, hm⟩ := n
  refine ⟨o, ho, fun name => ?_⟩
  have e := hm name
  unfold nsFind findBy at e
  rw [← Array.find?_toList] at e
  unfold PySem.W.lookIn
  rw [hd]
  dsimp only
  split
  · rename_i y q
    rw [q] at e
    exact congrArg some e
  · rename_i q
    rw [q] at e
    have a : es.toList.any (·.refKey) = false := by
      rw [List.any_eq_false]
      intro y hy
      obtain ⟨z, t, hkey⟩ := hk y (Array.mem_toList_iff.mp hy)
      simp [DictEntry.refKey, hkey]
    have a' : ¬ es.toList.any (·.refKey) = true := by rw [a]; exact Bool.false_ne_true
    rw [if_neg a']
    exact congrArg some e
theorem ObjM.look {h : Heap} {x dx C : Addr} {mA : Str → Option Value} (I : ObjM h x dx C mA) : ∃ od, PySem.W.InstAt h x (PySem.W.instObj C dx) C (some od) ∧ ∀ name, PySem.W.lookIn name od = some (mA name) :=
  let ⟨od, ho, hl⟩ := lookIn_ns I.ns
  ⟨od, ⟨I.obj, rfl, rfl, ho⟩, hl⟩
section
variable {prog : Program} {w : World} {A : Around} {E : Value → Shared → Prop} {s : Shared} {K : PySem.W.Frag} {x dx C f : Addr} {mA : Str → Option Value} {name : Str} {v : Value}
theorem get_map {expr : Bool} {Q : Value → Shared → Prop} (X : K.In s.heap) (I : ObjM s.heap x dx C mA) (hg : PySem.W.plainGet K C name = true) (hh : PySem.W.hasDictIn K C = true)
    (ha : PySem.W.findIn K (.ref C) name = some none) (hv : mA name = some v) (hv' : PySem.W.handedIn v = true) (h : Q v { s with toks := s.toks + 1 }) :
    wpAny (model prog w) A (getAttr (.ref x) name expr) Q E s := by
  obtain ⟨od, J, hl⟩ := I.look
  exact PySem.W.get_value X J (PySem.W.plainGet_of hg).1 (PySem.W.findObj_own hh ha rfl (by rw [hl, hv])) hv' h
end
theorem RelO.some_of {v : V} {o : Option Value} (r : RelO (some v) o) : ∃ u, o = some u ∧ RelV v u := by
  cases o with
  | none => exact (show False from r).elim
  | some u => exact ⟨u, rfl, r⟩
section
variable {P : Program} {w : World} {H H' : Hp} {h h' : Heap} {a C dx : Addr} {fs fs' : List (Str × V)}
end
structure Cls (K : PySem.W.Frag) (C : Addr) : Prop where
  pg : PySem.W.plainGet K C Str.empty = true
  hd : PySem.W.hasDictIn K C = true
  po : PySem.W.plainOver K C = true
  sa : PySem.W.findIn K (.ref C) "__setattr__" = some (some (.builtin "object.__setattr__"))
theorem Cls.get {K : PySem.W.Frag} {C : Addr} (c : Cls K C) (f : Str) : PySem.W.plainGet K C f = true := c.pg
structure Con (K : PySem.W.Frag) (C : Addr) (f : Str) (v : V) (u : Value) : Prop where
  at_ : PySem.W.findIn K (.ref C) f = some (some u)
  rel : RelV v u
  get : PySem.W.specialIn K u "__get__" = some none
  cp : PySem.W.copiedNames.contains f = false
structure Meth (K : PySem.W.Frag) (C : Addr) (m : Str) (f : Addr) : Prop where
  at_ : PySem.W.findIn K (.ref C) m = some (some (.ref f))
  fn : PySem.W.isFn K (.ref f) = true
  kp : PySem.W.keepIn K (.ref f) = true
section
variable {X : Cx} {pins : List (Addr × Obj)} {σ : St} {H : Hp} {s : Shared} {a C dx : Addr} {fs : List (Str × V)} {f : Str} {v : V} {A : Around} {E : Value → Shared → Prop}
theorem Inv.made (I : Inv X pins σ H s) : Inv X pins σ (upd (upd H s.heap.objs.size (.own (s.heap.objs.size + 1))) (s.heap.objs.size + 1) (.ins C s.heap.objs.size []))
    { s with heap := (s.heap.push PySem.W.emptyDict).push (PySem.W.instObj C s.heap.objs.size) } := by
  have e1 : (s.heap.push PySem.W.emptyDict).get? s.heap.objs.size = some PySem.W.emptyDict := Heap.get?_push_size s.heap rfl
  have e2 : ((s.heap.push PySem.W.emptyDict).push (PySem.W.instObj C s.heap.objs.size)).get? (s.heap.objs.size + 1) = some (PySem.W.instObj C s.heap.objs.size) := by
    have := Heap.get?_push_size (s.heap.push PySem.W.emptyDict) (o := PySem.W.instObj C s.heap.objs.size) rfl
    rwa [Heap.size_push] at this
  have e3 : (s.heap.push PySem.W.emptyDict).Ns s.heap.objs.size (fun _ => none) := ⟨PySem.W.emptyDict, #[], _, e1, rfl, (fun e he => absurd he (by simp)), fun _ => rfl⟩
  have I1 := I.laid (a := s.heap.objs.size) (o := .own (s.heap.objs.size + 1)) (h' := s.heap.push PySem.W.emptyDict) (t' := s.toks) (fun b u q => Heap.get?_push_of_some _ q) (Nat.le_refl _) ⟨_, e1⟩
  refine I1.laid (a := s.heap.objs.size + 1) (o := .ins C s.heap.objs.size []) (t' := s.toks) (fun b u q => Heap.get?_push_of_some _ q) (Nat.le_of_eq (Heap.size_push _ _)) ?_
  have ne : s.heap.objs.size ≠ s.heap.objs.size + 1 := Nat.ne_of_lt (Nat.lt_succ_self _)
  refine ⟨by rw [upd_ne ne, upd_same], Nat.zero_le _, ne, e2, fun _ => none, (Heap.Ns1.of_empty e3).at fun o q => Heap.get?_push_of_some _ q, fun _ => True.intro, fun y hy => absurd rfl hy⟩
end
section
variable {X : Cx} {o e value : Expr} {f : Str} {pos pos' tpos : Pos} {ta tv : TE}
end
section
variable {X : Cx} {pins : List (Addr × Obj)} {σ : St} {H : Hp} {s : Shared} {A : Around} {E : Value → Shared → Prop} {Q : Value → Shared → Prop} {c : Value} {b : Bool}
inductive TyOf (K : PySem.W.Frag) (H : Hp) : V → Value → Prop where
  | non : TyOf K H .non (.type "NoneType")
  | bl (x : Bool) : TyOf K H (.bl x) (.type "bool")
  | int (i : Int) : TyOf K H (.int i) (.type "int")
  | str (x : Str) : TyOf K H (.str x) (.type "str")
  | flt (x : UInt64) : TyOf K H (.flt x) (.type "float")
  | lst {a : Addr} {xs : List V} (e : H a = some (.lst xs)) : TyOf K H (.ref a) (.type "list")
  | frz {a : Addr} {o : Obj} {xs : List V} (e : H a = some (.frz o (.lst xs))) : TyOf K H (.ref a) (.type "list")
  | tup {a : Addr} {xs : List V} (e : H a = some (.tup xs)) : TyOf K H (.ref a) (.type "tuple")
  | dK {a : Addr} {kvs : List (Key × V)} (e : H a = some (.dK kvs)) : TyOf K H (.ref a) (.type "dict")
  | dT {a : Addr} {kvs : List (List Key × V)} (e : H a = some (.dT kvs)) : TyOf K H (.ref a) (.type "dict")
  | ins {a C dx : Addr} {fs : List (Str × V)} (e : H a = some (.ins C dx fs)) (cl : Cls K C) (ha : PySem.W.findIn K (.ref C) "__class__" = some (some (.builtin "object.__class__")))
      (hn : PySem.W.specialIn K (.builtin "object.__class__") "__get__" = some (some (.builtin "getset_descriptor.__get__"))) (htk : PySem.W.takesIn K (.builtin "object.__class__") = some true)
      (hm : PySem.W.mroIn K C (.type "object") = some true) : TyOf K H (.ref a) (.ref C)
end
end L2
namespace L2
open PySem PySem.Spec PyProof.Rows
structure Room (k : Nat) (A : Around) : Prop where
  hd : A.handled = none
  dp : A.depth + 3 * k + 5 < recursionLimit
  un : A.units + 16 * k + 200 < cLine
theorem Room.mono {j k : Nat} {A : Around} (r : Room k A) (h : j ≤ k) : Room j A := ⟨r.hd, by have := r.dp; omega, by have := r.un; omega⟩
theorem Room.deeper {k : Nat} {A : Around} (r : Room (k + 1) A) (env : Env) : Room k (A.deeper env) :=
  ⟨r.hd, by have := r.dp; show A.depth + 1 + 3 * k + 5 < _; omega, by have := r.un; show A.units + 3 + 16 * k + 200 < _; omega⟩
theorem Room.in1 {k : Nat} {A : Around} (r : Room (k + 1) A) : Room k A.in1 :=
  ⟨r.hd, by have := r.dp; show A.depth + 3 * k + 5 < _; omega, by have := r.un; show A.units + 1 + 16 * k + 200 < _; omega⟩
theorem make_depth {A : Around} {C : Addr} {us : List Value} {kw : List (Str × Value)} : (A.under (.builtin "type.__call__" ⟨.ref C :: us, kw⟩)).depth = A.depth + 1 := by
  first | rfl | simp [Around.under, Code.weight, Code.isCreation, Code.isGuard, Code.isCaller, Code.frames, Code.isFrame, guardIds]
theorem make_units {A : Around} {C : Addr} {us : List Value} {kw : List (Str × Value)} : (A.under (.builtin "type.__call__" ⟨.ref C :: us, kw⟩)).units = A.units + 1 := by
  first | rfl | simp [Around.under, Code.cUnits, Code.frames, Code.isFrame]
theorem Room.make {k : Nat} {A : Around} (r : Room (k + 1) A) (C : Addr) (us : List Value) (kw : List (Str × Value)) : Room k (A.under (.builtin "type.__call__" ⟨.ref C :: us, kw⟩)) :=
  ⟨r.hd, by have := r.dp; rw [make_depth]; omega, by have := r.un; rw [make_units]; omega⟩
theorem Room.depth {k : Nat} {A : Around} (r : Room k A) : A.depth < recursionLimit := by have := r.dp; omega
theorem Room.units {k : Nat} {A : Around} (r : Room k A) : A.units + 64 < cLine := by have := r.un; omega
def tNil : TA := fun _ H Q => Q [] H
def tCons (ta : TE) (tr : TA) : TA := fun σ H Q => ta σ H fun x H1 => tr σ H1 fun xs H2 => Q (x :: xs) H2
section
variable {X : Cx} {e : Expr} {es : List Expr} {te : TE} {t : TA} {pos : Pos}
theorem pa_nil : PA X [] tNil := fun _ _ _ _ H Q I h => Calls.spliced_nil ⟨[], H, I, .nil, h⟩
theorem pa_cons (ha : PE X e te) (hr : PA X es t) (hs : starEach (e :: es) X.env = (false, eval e X.env) :: starEach es X.env := by rfl) : PA X (e :: es) (tCons te t) := by
  intro pos pins s σ H Q I h
  rw [hs]
  show wpAny _ _ (spliced ((false, eval e X.env) :: backTo pos (starEach es X.env))) _ _ s
  refine Calls.spliced_cons (thn (ha pins s σ H _ I h) fun u s1 ⟨x, H1, I1, r1, q1⟩ => ?_)
  exact thn (hr pos pins s1 σ H1 _ I1 q1) fun us s2 ⟨xs, H2, I2, r2, q2⟩ => ⟨x :: xs, H2, I2, .cons r1 r2, q2⟩
def tTup (t : TA) : TE := fun σ H Q => t σ H fun xs H1 => xs.length ≤ sizeLine ∧ ∀ p, H1 p = none → Q (.ref p) (upd H1 p (.tup xs))
def tLst (t : TA) : TE := fun σ H Q => t σ H fun xs H1 => xs.length ≤ sizeLine ∧ ∀ p, H1 p = none → Q (.ref p) (upd H1 p (.lst xs))
theorem pe_tup {x1} (h : PA X es t) : PE X (.Tuple es x1 pos) (tTup t) := by
  intro pins s σ H Q I hq
  refine wpAny_Tuple_spliced (thn (h pos pins s σ H _ I hq) fun us s1 ⟨xs, H1, I1, r, z, q⟩ => ⟨by rw [← r.length]; exact z, ?_⟩)
  have hf : H1 s1.heap.objs.size = none := I1.hok.fresh (Nat.le_refl _)
  refine ⟨.ref s1.heap.objs.size, upd H1 s1.heap.objs.size (.tup xs), I1.laid (t' := s1.toks) (fun b u e => Heap.get?_push_of_some _ e) (Nat.le_refl _) ?_, rfl, q _ hf⟩
  exact ⟨z, us, r, ⟨_, Heap.get?_push_size _ rfl, rfl, _, rfl, rfl⟩⟩
theorem pe_lst (h : PA X es t) : PE X (.List es pos) (tLst t) := by
  intro pins s σ H Q I hq
  refine wpAny_List_spliced (thn (h pos pins s σ H _ I hq) fun us s1 ⟨xs, H1, I1, r, z, q⟩ => ⟨by rw [← r.length]; exact z, ?_⟩)
  have hf : H1 s1.heap.objs.size = none := I1.hok.fresh (Nat.le_refl _)
  refine ⟨.ref s1.heap.objs.size, upd H1 s1.heap.objs.size (.lst xs), I1.laid (t' := s1.toks) (fun b u e => Heap.get?_push_of_some _ e) (Nat.le_refl _) ?_, rfl, q _ hf⟩
  exact ⟨z, us, 0, r, Heap.get?_push_size _ rfl⟩
end
abbrev Sp := List V → Hp → VK → XK → Prop
abbrev CXT := List Env → Hp → Shared → XK → Value → Shared → Prop
structure Env0 (P : Program) (w : World) (K : PySem.W.Frag) (mg : Str → Option Value) (base : Heap) (A : Around) (outer : List Env) (s : Shared) (H : Hp) : Prop where
  frames : A.frames = some outer
  mod : Mod K mg base
  bs : ∀ b o, base.get? b = some o → s.heap.get? b = some o ∧ H b = none
  bsz : base.objs.size ≤ s.heap.objs.size
  funs : s.heap.FunFrames base outer
  frf : ∀ b ∈ frs outer, H b = none
  hok : HOk P w H s.heap
  bare : AllBare s.gens
def CE (outer : List Env) (P : Program) (w : World) (H : Hp) (s : Shared) (Q : VK) (u : Value) (s' : Shared) : Prop :=
  ∃ v H', s'.os = s.os ∧ AllBare s'.gens ∧ Un (frs outer) [] H H' s.heap s'.heap ∧ HOk P w H' s'.heap ∧ RelV v u ∧ Q v H'
def CR (CX : CXT) (outer : List Env) (P : Program) (w : World) (H : Hp) (s : Shared) (Q : VK) (E : XK) (r : Result) (s' : Shared) : Prop :=
  match r with
  | .ok (.ret u) => CE outer P w H s Q u s'
  | .ok _ => False
  | .error e => CX outer H s E e s'
structure FnOk (P : Program) (w : World) (K : PySem.W.Frag) (mg : Str → Option Value) (base : Heap) (CX : CXT) (k : Nat) (f : Addr) (fd : FuncData) (ps : List Str) (sp : Sp) : Prop where
  len : ∀ vs H Q E, sp vs H Q E → vs.length = ps.length
  run : ∀ (A : Around) (outer : List Env) (s : Shared) (H : Hp) (args : Args) (us : List Value) (vs : List V) (Q : VK) (E : XK), Room k A → Env0 P w K mg base A outer s H → BindsTo s fd args (ps.zip us) → Vals vs us → sp vs H Q E →
    codeAny (model P w) A (.call (.ref f) args) (CR CX outer P w H s Q E) s
theorem FnOk.mono {P : Program} {w : World} {K : PySem.W.Frag} {mg : Str → Option Value} {base : Heap} {CX : CXT} {j k : Nat} {f : Addr} {fd : FuncData} {ps : List Str} {sp : Sp} (F : FnOk P w K mg base CX j f fd ps sp) (h : j ≤ k) :
    FnOk P w K mg base CX k f fd ps sp := ⟨F.len, fun A outer s H args us vs Q E hr => F.run A outer s H args us vs Q E (hr.mono h)⟩
theorem FnOk.imp {P : Program} {w : World} {K : PySem.W.Frag} {mg : Str → Option Value} {base : Heap} {CX : CXT} {k : Nat} {f : Addr} {fd : FuncData} {ps : List Str} {sp sp' : Sp} (F : FnOk P w K mg base CX k f fd ps sp)
    (h : ∀ vs H Q E, sp' vs H Q E → sp vs H Q E) : FnOk P w K mg base CX k f fd ps sp' :=
  ⟨fun vs H Q E q => F.len vs H Q E (h _ _ _ _ q), fun A outer s H args us vs Q E hr he hb hv hs => F.run A outer s H args us vs Q E hr he hb hv (h _ _ _ _ hs)⟩
theorem Env0.make {P : Program} {w : World} {K : PySem.W.Frag} {mg : Str → Option Value} {base : Heap} {A : Around} {outer : List Env} {s : Shared} {H : Hp} (e : Env0 P w K mg base A outer s H) (C : Addr) (us : List Value) (kw : List (Str × Value)) :
    Env0 P w K mg base (A.under (.builtin "type.__call__" ⟨.ref C :: us, kw⟩)) outer s H := ⟨by first | exact e.frames | (simpa [Around.under, Code.envs, Code.isFrame, pushEnvs] using e.frames), e.mod, e.bs, e.bsz, e.funs, e.frf, e.hok, e.bare⟩
theorem Env0.in1 {P : Program} {w : World} {K : PySem.W.Frag} {mg : Str → Option Value} {base : Heap} {A : Around} {outer : List Env} {s : Shared} {H : Hp} (e : Env0 P w K mg base A outer s H) :
    Env0 P w K mg base A.in1 outer s H := ⟨e.frames, e.mod, e.bs, e.bsz, e.funs, e.frf, e.hok, e.bare⟩
section
variable {X : Cx} {pins : List (Addr × Obj)} {σ : St} {H : Hp} {s s' : Shared}
theorem Inv.env0 (I : Inv X pins σ H s) : Env0 X.prog X.w X.K X.mg X.base X.A X.stack s H :=
  ⟨I.ok.frames, I.ok.mod, I.bs, Nat.le_trans I.ok.bsz I.sz, I.stack, I.stkFree, I.hok, I.bare⟩
theorem Inv.after {Q : VK} {u : Value} (I : Inv X pins σ H s) (h : CE X.stack X.prog X.w H s Q u s') : EP X pins σ Q u s' := by
  obtain ⟨v, H', os, bare, un, hok, r, q⟩ := h
  obtain ⟨hh, g, d, t, os'⟩ := s'
  obtain rfl : os' = s.os := os
  exact ⟨v, H', I.call (h' := hh) (g' := g) (d' := d) (t' := t) (ch := []) un hok bare (fun b z => absurd z (by simp)), r, q⟩
end
def tCall (sp : Sp) (dvs : List V) (E : XK) (t : TA) : TE := fun σ H Q => t σ H fun vs H1 => sp (vs ++ dvs) H1 Q E
def Binds (K : PySem.W.Frag) (fd : FuncData) (ps : List Str) (ds : List Value) : Prop :=
  ∀ (s : Shared) (us : List Value), K.In s.heap → (us ++ ds).length = ps.length → BindsTo s fd ⟨us, []⟩ (ps.zip (us ++ ds))
theorem Binds.all {K : PySem.W.Frag} {fd : FuncData} {ps : List Str} (h : ∀ us : List Value, us.length = ps.length → bindArgs fd ⟨us, []⟩ = pure (ps.zip us)) : Binds K fd ps [] := fun s us _ hl => by
  rw [List.append_nil] at hl ⊢
  exact .of_eq (h us hl)
def Passes (CX : CXT) (X : Cx) (E : XK) : Prop := ∀ (pins : List (Addr × Obj)) (σ : St) (H : Hp) (s : Shared) (e : Value) (s' : Shared), Inv X pins σ H s → CX X.stack H s E e s' → X.xe e s'
section
variable {X : Cx} {CX : CXT} {k : Nat} {f C : Addr} {fd : FuncData} {ps : List Str} {sp : Sp} {dvs : List V} {ds : List Value} {E : XK} {x m : Str} {p pos apos : Pos} {e o : Expr} {es : List Expr} {ta : TE} {t : TA}
theorem run_fn {pins : List (Addr × Obj)} {σ : St} {H : Hp} {s : Shared} {Q : VK} {us : List Value} {vs : List V} (F : FnOk X.prog X.w X.K X.mg X.base CX k f fd ps sp) (hr : Room k X.A) (hb : Binds X.K fd ps ds) (hd : Vals dvs ds) (hx : Passes CX X E)
    (I : Inv X pins σ H s) (r : Vals vs us) (h : sp (vs ++ dvs) H Q E) : wpAny (model X.prog X.w) X.A (call (.ref f) us) (EP X pins σ Q) X.xe s := by
  have r2 : Vals (vs ++ dvs) (us ++ ds) := r.append hd
  have hl : (us ++ ds).length = ps.length := by rw [← r2.length]; exact F.len _ _ _ _ h
  refine wpAny_call (codeAny_mono (F.run X.A X.stack s H ⟨us, []⟩ (us ++ ds) (vs ++ dvs) Q E hr I.env0 (hb s us I.kIn hl) r2 h) fun r s' hq => ?_)
  cases r with
  | error e => exact hx pins σ H s e s' I hq
  | ok fl =>
    cases fl with
    | ret u => exact I.after hq
    | next => exact False.elim hq
    | brk => exact False.elim hq
    | cont => exact False.elim hq
theorem pe_call (F : FnOk X.prog X.w X.K X.mg X.base CX k f fd ps sp) (hr : Room k X.A) (hg : Gl X x) (hm : X.mg x = some (.ref f)) (hk : PySem.W.keepIn X.K (.ref f) = true) (hb : Binds X.K fd ps ds) (hd : Vals dvs ds) (hx : Passes CX X E)
    (ha : PA X (e :: es) t) (hdb : (x == ("__debug__" : Str)) = false := by decide) (he : starEach (e :: es) X.env = (false, eval e X.env) :: starEach es X.env := by rfl) (hpl : (backTo pos (starEach es X.env)).any (·.1) = false := by rfl) :
    PE X (.Call (.Name x p) (e :: es) [] pos) (tCall sp dvs E t) := by
  intro pins s σ H Q I h
  refine wpAny_Call_Name_kw (ld_glob I hg hm ?_ hdb)
  refine PySem.W.callWith_K (h₀ := X.base) I.ok.mod.kin hk (thn (ha pos pins s σ H _ I h) fun us s1 ⟨vs, H1, I1, r, q⟩ => ⟨I1.kIn, ?_⟩) he hpl
  exact run_fn F hr hb hd hx I1 r q
structure Mk (K : PySem.W.Frag) (C f : Addr) : Prop where
  makes : PySem.W.makesIn K C = true
  init : PySem.W.findIn K (.ref C) "__init__" = some (some (.ref f))
  fn : PySem.W.isFn K (.ref f) = true
  kp : PySem.W.keepIn K (.ref C) = true
end
section
variable {X : Cx} {CX : CXT} {k : Nat} {f C : Addr} {fd : FuncData} {ps ks : List Str} {sp : Sp} {E : XK} {x m : Str} {p pos apos kpos : Pos} {e o : Expr} {es : List Expr} {kws : List Keyword} {te ta : TE} {t tk : TA} {nm : Option Str}
structure KBinds (K : PySem.W.Frag) (fd : FuncData) (ps ks : List Str) (g : List Value → List Value → List Value) (gV : List V → List V → List V) : Prop where
  to : ∀ (s : Shared) (us ws : List Value), K.In s.heap → (g us ws).length = ps.length → BindsTo s fd ⟨us, ks.zip ws⟩ (ps.zip (g us ws))
  rel : ∀ {vs : List V} {us : List Value} {zs : List V} {ws : List Value}, Vals vs us → Vals zs ws → Vals (gV vs zs) (g us ws)
variable {g : List Value → List Value → List Value} {gV : List V → List V → List V}
end
structure FnScope (N P : List Str) (sc : Scope) : Prop where
  kind : sc.kind = .function
  co : sc.isCoroutine = false
  gen : sc.isGenerator = false
  nd : N.Nodup
  pre : N.take P.length = P
  par : ∀ x ∈ P, sc.names.lookup x = some .local ∨ sc.names.lookup x = some .cell
  nofree : ∀ y ∈ sc.names, y.2 ≠ .free
theorem bindL_out {kindOf : Str → Option NameKind} {x : Str} : ∀ {binds : List (Str × Value)} {m : Str → Option Value}, (∀ v, (x, v) ∉ binds) → bindL kindOf binds m x = m x
  | [], _, _ => rfl
  | (n, v) :: r, m, h => by
    unfold bindL
    rw [bindL_out fun w hw => h w (List.mem_cons_of_mem _ hw)]
    split
    · have : x ≠ n := by rintro rfl; exact h v List.mem_cons_self
      simp [this]
    · rfl
theorem bindC_out {kindOf : Str → Option NameKind} {x : Str} : ∀ {binds : List (Str × Value)} {m : Str → Option Value}, (∀ v, (x, v) ∉ binds) → bindC kindOf binds m x = m x
  | [], _, _ => rfl
  | (n, v) :: r, m, h => by
    unfold bindC
    rw [bindC_out fun w hw => h w (List.mem_cons_of_mem _ hw)]
    split
    · rfl
    · have : x ≠ n := by rintro rfl; exact h v List.mem_cons_self
      simp [this]
theorem bindL_get {kindOf : Str → Option NameKind} {x : Str} {v : Value} : ∀ {P : List Str} {vs : List Value} {i : Nat} {m : Str → Option Value}, P.Nodup → P[i]? = some x → vs[i]? = some v → kindOf x = some .local →
    bindL kindOf (P.zip vs) m x = some v
  | [], _, _, _, _, h, _, _ => by simp at h
  | _ :: _, [], _, _, _, _, h, _ => by simp at h
  | p :: P, w :: vs, 0, m, nd, h1, h2, hk => by
    simp at h1 h2; subst h1; subst h2
    show bindL kindOf ((p, w) :: P.zip vs) m p = _
    unfold bindL
    rw [bindL_out fun v hv => (List.nodup_cons.mp nd).1 (List.of_mem_zip hv).1, if_pos hk]
    simp
  | p :: P, w :: vs, i + 1, m, nd, h1, h2, hk => by
    show bindL kindOf ((p, w) :: P.zip vs) m x = _
    unfold bindL
    exact bindL_get (i := i) (List.nodup_cons.mp nd).2 (by simpa using h1) (by simpa using h2) hk
theorem bindC_get {kindOf : Str → Option NameKind} {x : Str} {v : Value} : ∀ {P : List Str} {vs : List Value} {i : Nat} {m : Str → Option Value}, P.Nodup → P[i]? = some x → vs[i]? = some v → kindOf x ≠ some .local →
    bindC kindOf (P.zip vs) m x = some v
  | [], _, _, _, _, h, _, _ => by simp at h
  | _ :: _, [], _, _, _, _, h, _ => by simp at h
  | p :: P, w :: vs, 0, m, nd, h1, h2, hk => by
    simp at h1 h2; subst h1; subst h2
    show bindC kindOf ((p, w) :: P.zip vs) m p = _
    unfold bindC
    rw [bindC_out fun v hv => (List.nodup_cons.mp nd).1 (List.of_mem_zip hv).1, if_neg hk]
    simp
  | p :: P, w :: vs, i + 1, m, nd, h1, h2, hk => by
    show bindC kindOf ((p, w) :: P.zip vs) m x = _
    unfold bindC
    exact bindC_get (i := i) (List.nodup_cons.mp nd).2 (by simpa using h1) (by simpa using h2) hk
def start (N : List Str) (vs : List V) : St := vs.map some ++ List.replicate (N.length - vs.length) none
def cxOf (CX : CXT) (P : Program) (w : World) (K : PySem.W.Frag) (mg : Str → Option Value) (base : Heap) (N : List Str) (qual : Str) (scope : Scope) (f : Addr) (cd : Value) (A : Around) (outer : List Env) (s : Shared) (H : Hp) (E : XK) : Cx where
  prog := P
  w := w
  K := K
  mg := mg
  base := base
  A := A.deeper (envOfC qual scope s.heap.objs.size f cd)
  N := N
  s_0 := s
  H_0 := H
  env := envOfC qual scope s.heap.objs.size f cd
  outer := outer
  stack := envOfC qual scope s.heap.objs.size f cd :: outer
  ex := []
  calm := true
  fn := fun _ => true
  pn := []
  xe := fun e s' => wpAny (model P w) (A.deeper (envOfC qual scope s.heap.objs.size f cd)) (leaving (envOfC qual scope s.heap.objs.size f cd) e) (fun _ s'' => CX outer H s E e s'') (fun e' s'' => CX outer H s E e' s'') s'
theorem cell_has {sc : Scope} {n : Nat} {x : Str} (h : sc.names.lookup x = some .cell) : ∃ c, (cellsFrom n sc.names []).lookup x = some c := by
  have q := PySem.W.cellsFrom_some sc.names n [] (.inl h)
  exact Option.isSome_iff_exists.mp q
theorem inv_start {CX : CXT} {P : Program} {w : World} {K : PySem.W.Frag} {mg : Str → Option Value} {base : Heap} {N ps : List Str} {qual : Str} {scope : Scope} {f : Addr} {cd : Value} {A : Around} {outer : List Env} {s s1 : Shared} {H : Hp} {E : XK} {us : List Value} {vs : List V}
    (S : FnScope N ps scope) (hd : A.handled = none) (e0 : Env0 P w K mg base A outer s H) (hl : vs.length = ps.length) (r : Vals vs us)
    (x : InCallC s s.heap.objs.size (bindL (envOfC qual scope s.heap.objs.size f cd).kindOf (ps.zip us) fun _ => none) (cellsFrom (s.heap.objs.size + 1) scope.names []) (bindC (envOfC qual scope s.heap.objs.size f cd).kindOf (ps.zip us) fun _ => none) s1) :
    Inv (cxOf CX P w K mg base N qual scope f cd A outer s H E) [] (start N vs) H s1 := by
  have hpl : ps.length ≤ N.length := by have := congrArg List.length S.pre; rw [List.length_take] at this; omega
  obtain ⟨h1, tk, rfl, hk⟩ := x.done
  have noA : ∀ b : Addr, b ∉ (cxOf CX P w K mg base N qual scope f cd A outer s H E).ex := fun b z => absurd (show b ∈ ([] : List Addr) from z) (by simp)
  refine ⟨⟨e0.mod, S.kind, rfl, rfl, Nat.le_refl _, fun y z c h1 h2 => ?_, fun y hy => ?_, fun y c _ h => ?_, fun _ => hd, Around.frames_deeper e0.frames, .inr ⟨rfl, rfl⟩, fun b z => absurd z (noA b), e0.bs, e0.bsz, fun b _ _ => noA b, fun b z => absurd z (noA b), e0.funs, e0.frf⟩,
    rfl, e0.bare, Un.kept hk, ⟨_, x.toInCall.ns, fun i y v h1 h2 h3 => ?_⟩, fun y c h => ⟨_, x.cell y c h⟩, e0.hok.fresh (Nat.le_refl _), fun y c h => ?_, fun p hp => absurd (show p ∈ ([] : List (Addr × Obj)) from hp) (by simp), e0.hok.kept hk, ?_⟩
  · exact name_of_addr x.apart (PySem.mem_of_lookup h1) (PySem.mem_of_lookup h2)
  · have hy : scope.names.lookup y = some .cell ∨ scope.names.lookup y = some .free := hy
    rcases hy with hy | hy
    · exact cell_has hy
    · exact absurd rfl (S.nofree _ (PySem.mem_of_lookup hy))
  · exact Nat.le_of_lt (x.above y c (PySem.mem_of_lookup h))
  · have hi : i < vs.length := by
      unfold start at h2
      by_cases hi : i < vs.length
      · exact hi
      · rw [List.getElem?_append_right (by simpa using hi)] at h2
        rw [List.getElem?_replicate] at h2
        split at h2 <;> cases h2
    have ha : vs[i]? = some v := by
      unfold start at h2
      rw [List.getElem?_append_left (by simpa using hi), List.getElem?_map] at h2
      cases e : vs[i]? with
      | none => rw [e] at h2; cases h2
      | some a => rw [e] at h2; cases h2; rfl
    obtain ⟨u, hu, rv⟩ := r.get ha
    have hp : ps[i]? = some y := by
      rw [← S.pre, List.getElem?_take_of_lt (by omega)]; exact h1
    have ndP : ps.Nodup := by rw [← S.pre]; exact S.nd.sublist (List.take_sublist _ _)
    refine ⟨u, rv, ?_⟩
    rcases S.par y (List.mem_of_getElem? hp) with k | k
    · exact .inl ⟨k, bindL_get ndP hp hu k⟩
    · obtain ⟨c, e⟩ := cell_has (n := s.heap.objs.size + 1) k
      refine .inr ⟨.inl k, c, e, ?_⟩
      have q := x.cell y c e
      rw [bindC_get ndP hp hu (by show scope.names.lookup y ≠ _; rw [k]; decide)] at q
      exact q
  · exact e0.hok.fresh (Nat.le_of_lt (x.above y c (PySem.mem_of_lookup h)))
  · unfold start
    show _ = N.length
    rw [List.length_append, List.length_map, List.length_replicate]
    omega
theorem fn_of {CX : CXT} {P : Program} {w : World} {K : PySem.W.Frag} {mg : Str → Option Value} {base : Heap} {k : Nat} {f : Addr} {name qual : Str} {params : Arguments} {body : List Stmt} {scope : Scope} {dV kV doc pm cdv ct oc : Value} {an od : Option Addr}
    {osl : Array (Option Value)} {N ps : List Str} {sp : Sp} (lk : K.lookup f = some ⟨oc, od, .func (PySem.W.fnOf name qual params body scope dV kV doc pm an cdv ct), osl⟩) (hcd : PySem.W.codeIn K cdv qual = true) (S : FnScope N ps scope)
    (len : ∀ vs H Q E, sp vs H Q E → vs.length = ps.length)
    (hbody : ∀ (A : Around) (outer : List Env) (s : Shared) (H : Hp) (vs : List V) (Q : VK) (E : XK), Room k (A.deeper (envOfC qual scope s.heap.objs.size f cdv)) → sp vs H Q E →
      ∃ t, PSs (cxOf CX P w K mg base N qual scope f cdv A outer s H E) body t ∧ t { nx := fun _ H' => Q .non H', rt := Q } (start N vs) H) :
    FnOk P w K mg base CX (k + 1) f (PySem.W.fnOf name qual params body scope dV kV doc pm an cdv ct) ps sp := by
  refine ⟨len, fun A outer s H args us vs Q E hr e0 hb r hsp => ?_⟩
  have hl := len _ _ _ _ hsp
  have KX : K.In s.heap := e0.mod.kin.keeps fun b o e => (e0.bs b o e).1
  have lim : s.heap.NoLimit := e0.mod.nolimit.keeps fun b o e => (e0.bs b o e).1
  have hkind : ∀ y ∈ ps.zip us, scope.names.lookup y.1 = some .local ∨ (scope.names.lookup y.1 = some .cell ∧ ((cellsFrom (s.heap.objs.size + 1) scope.names []).lookup y.1).isSome = true) := fun ⟨n, v⟩ hy => by
    rcases S.par n (List.of_mem_zip hy).1 with q | q
    · exact .inl q
    · exact .inr ⟨q, PySem.W.cellsFrom_some _ _ _ (.inl q)⟩
  refine codeAny_call_function hr.depth (KX _ _ lk) rfl S.co S.gen rfl (PySem.W.codeRec_of KX hcd) (hb _ _ _ _ ?_)
  refine wpAny_newFunctionEnv_cells S.kind hkind fun env he s1 x => ?_
  subst he
  refine ⟨lim.keeps x.toInCall.keep, codeAny_func ?_⟩
  obtain ⟨t, ht, hq⟩ := hbody A outer s H vs Q E (hr.deeper _) hsp
  have I : Inv (cxOf CX P w K mg base N qual scope f cdv A outer s H E) [] (start N vs) H s1 := inv_start S hr.hd e0 hl r x
  refine wpAny_mono (ht [] s1 (start N vs) H _ I hq) (fun fl s' hs => ?_) fun e s' hs => hs
  have fin : ∀ {σ' : St} {H' : Hp} {v : V} {u : Value}, Inv (cxOf CX P w K mg base N qual scope f cdv A outer s H E) [] σ' H' s' → RelV v u → Q v H' → CE outer P w H s Q u s' :=
    fun {σ' H' v u} J rv q => ⟨v, H', J.os, J.bare, J.base, J.hok, rv, q⟩
  cases fl with
  | ret u =>
    obtain ⟨v, σ', H', J, rv, q⟩ := hs
    exact fin J rv q
  | next =>
    obtain ⟨σ', H', J, q⟩ := hs
    exact fin (v := V.non) (u := Value.none) J rfl q
  | brk =>
    obtain ⟨_, _, _, q⟩ := hs
    exact False.elim q
  | cont =>
    obtain ⟨_, _, _, q⟩ := hs
    exact False.elim q
end L2
namespace L2
open PySem PySem.Spec PyProof.Rows
section
variable {X : Cx} {x : Str} {p pos : Pos} {e : Expr} {es : List Expr} {t : TA} {id T : String} {r : List V → Hp → VK → Prop}
def tCB (r : List V → Hp → VK → Prop) (t : TA) : TE := fun σ H Q => t σ H fun vs H1 => r vs H1 Q
theorem pe_callB (hc : CallR X (.builtin id) r) (hg : Gl X x) (hm : X.mg x = none) (hv : bootBuiltins x = some (.builtin id)) (ha : PA X (e :: es) t) (hn : x ≠ "__name__" := by decide) (hdb : (x == ("__debug__" : Str)) = false := by decide)
    (he : starEach (e :: es) X.env = (false, eval e X.env) :: starEach es X.env := by rfl) (hpl : (backTo pos (starEach es X.env)).any (·.1) = false := by rfl) : PE X (.Call (.Name x p) (e :: es) [] pos) (tCB r t) := by
  intro pins s σ H Q I h
  refine wpAny_Call_Name_kw (ld_blt I hg hm hv ?_ hn hdb)
  exact PyProof.Rows.callWith_builtin1 (thn (ha pos pins s σ H _ I h) fun us s1 ⟨vs, H1, I1, r1, q1⟩ => hc pins s1 σ H1 vs us Q I1 r1 q1) he hpl
theorem pe_callTy (hc : CallR X (.type T) r) (hg : Gl X x) (hm : X.mg x = none) (hv : bootBuiltins x = some (.type T)) (ha : PA X (e :: es) t) (hn : x ≠ "__name__" := by decide) (hdb : (x == ("__debug__" : Str)) = false := by decide)
    (he : starEach (e :: es) X.env = (false, eval e X.env) :: starEach es X.env := by rfl) (hpl : (backTo pos (starEach es X.env)).any (·.1) = false := by rfl) : PE X (.Call (.Name x p) (e :: es) [] pos) (tCB r t) := by
  intro pins s σ H Q I h
  refine wpAny_Call_Name_kw (ld_blt I hg hm hv ?_ hn hdb)
  exact PyProof.Rows.callWith_type1 (thn (ha pos pins s σ H _ I h) fun us s1 ⟨vs, H1, I1, r1, q1⟩ => hc pins s1 σ H1 vs us Q I1 r1 q1) he hpl
end
end L2
namespace HT
open PySem PyProof.Rows
section
open PySem.SeqAt
open PySem.AutoSeq1 (wpAny_loadPart')
open PySem.MeetsSeq PySem.MeetsSeq2 PySem.MeetsSeq3
end
section
variable {prog : Program} {w : World} {A : Around} {E : Value → Shared → Prop} {s : Shared}
theorem cat_tup {t b : Addr} {vs ws : List Value} {Q : Value → Shared → Prop} (ht : IsTup s.heap t vs.toArray) (hb : IsTup s.heap b ws.toArray) (hv : vs ≠ [])
    (h1 : ws = [] → Q (.ref t) s) (h2 : ws ≠ [] → Q (.ref s.heap.objs.size) { s with heap := s.heap.push { cls := .type "tuple", data := .seq (vs ++ ws).toArray } })
    (hsz : vs.length + ws.length ≤ sizeLine) : wpAny (model prog w) A (binaryOp .Add (.ref t) (.ref b)) Q E s := by
  obtain ⟨⟨cls, dd, data, sl⟩, ho, hc, n, hd⟩ := id ht
  obtain ⟨⟨cls2, dd2, data2, sl2⟩, ho2, hc2, n2, hd2⟩ := id hb
  simp only at hc hd hc2 hd2
  subst hc hd hc2 hd2
  have e : vs.toArray ++ ws.toArray = (vs ++ ws).toArray := by simp
  by_cases hw : ws = []
  · exact concat_meets ⟨_, ho, rfl⟩ ⟨_, ho2, rfl⟩ noFill_tuple_add seq_tuple_add PySem.F.slot_tuple_add PySem.F.entry_tuple_add (PySem.F.args_tuple_add_2 _ _)
      (tuple_addW1 t b vs.toArray ws.toArray n n2 dd dd2 sl sl2 (by simpa using hv) (by simp [hw])) ⟨ho, ho2, h1 hw⟩
  · refine concat_meets ⟨_, ho, rfl⟩ ⟨_, ho2, rfl⟩ noFill_tuple_add seq_tuple_add PySem.F.slot_tuple_add PySem.F.entry_tuple_add (PySem.F.args_tuple_add_2 _ _)
      (tuple_addW2 t b vs.toArray ws.toArray n n2 dd dd2 sl sl2 (by simpa using hv) (by simpa using hw) (by rw [List.size_toArray, List.size_toArray]; exact hsz)) ⟨ho, ho2, ?_⟩
    rw [e]
    exact h2 hw
def sIx (n d : Nat) : Option Int → Nat
  | none => d
  | some v => if v < 0 then (v + (n : Int)).toNat else min v.toNat n
theorem sIx_nat (n d k : Nat) : sIx n d (some (k : Int)) = min k n := by
  show (if (k : Int) < 0 then ((k : Int) + (n : Int)).toNat else min (k : Int).toNat n) = min k n
  rw [if_neg (by omega), Int.toNat_natCast]
theorem sIx_le (n d : Nat) (hd : d ≤ n) (o : Option Int) : sIx n d o ≤ n := by
  cases o with
  | none => exact hd
  | some v =>
    show (if v < 0 then (v + (n : Int)).toNat else min v.toNat n) ≤ n
    by_cases hv : v < 0
    · rw [if_pos hv]; omega
    · rw [if_neg hv]; exact Nat.min_le_right _ _
theorem clip_eq (v : Int) (n d : Nat) : (if v < 0 then max (v + (n : Int)) 0 else min v (n : Int)) = ((sIx n d (some v) : Nat) : Int) := by
  show (if v < 0 then max (v + (n : Int)) 0 else min v (n : Int)) = (((if v < 0 then (v + (n : Int)).toNat else min v.toNat n) : Nat) : Int)
  by_cases hv : v < 0
  · simp only [if_pos hv]; omega
  · simp only [if_neg hv]; omega
theorem adjust_gen (lo hi : Option Int) (n : Nat) : Builtin.Slice.sliceAdjust lo hi 1 (n : Int) = (((sIx n 0 lo : Nat) : Int), ((sIx n n hi : Nat) : Int)) := by
  have h1 : ¬ ((1 : Int) < 0) := by omega
  unfold Builtin.Slice.sliceAdjust
  simp only [h1, if_false]
  refine Prod.ext ?_ ?_
  · cases lo with
    | none => rfl
    | some v => exact clip_eq v n 0
  · cases hi with
    | none => rfl
    | some v => exact clip_eq v n n
theorem places_gen (i j : Nat) : Builtin.Slice.slicePlaces (i : Int) (j : Int) 1 = j - i := by
  unfold Builtin.Slice.slicePlaces
  have h1 : (1 : Int) > 0 := by omega
  simp only [h1, if_true, Int.ediv_one]
  split <;> omega
theorem slicePart_ {v : Value} {o : Option Int} {Q : Option Int → Shared → Prop} (p : IsPart v o) (h : Q o s) : wpAny (model prog w) A (Builtin.Slice.slicePartIndex v) Q E s := by
  cases p with
  | none => exact slicePart_none h
  | int i t => exact slicePart_int h
theorem sliceApplied_gen {sl : Addr} {vl vu : Value} {lo hi : Option Int} {n : Nat} {Q : Int × Int × Nat → Shared → Prop} (hs : s.heap.IsSliceOf sl vl vu .none) (pl : IsPart vl lo) (pu : IsPart vu hi)
    (h : Q (((sIx n 0 lo : Nat) : Int), 1, sIx n n hi - sIx n 0 lo) s) : wpAny (model prog w) A (Builtin.Slice.sliceApplied (.ref sl) (pure (n : Int))) Q E s := by
  obtain ⟨os, hos, hcs, hds⟩ := id hs
  unfold Builtin.Slice.sliceApplied Builtin.Slice.sliceFields
  refine wpAny_bind (wpAny_bind (wpAny_field hos hds (x := vl) rfl (wpAny_bind (wpAny_field hos hds (x := vu) rfl (wpAny_bind (wpAny_field hos hds (x := .none) rfl (wpAny_pure ?_)))))))
  refine wpAny_bind (slicePart_none ?_)
  show wpAny _ _ (if ((1 : Int) == 0) = true then _ else _) _ _ s
  rw [if_neg (by decide)]
  refine wpAny_bind (slicePart_ pl (wpAny_bind (slicePart_ pu (wpAny_bind (wpAny_pure ?_)))))
  show wpAny _ _ (match Builtin.Slice.sliceAdjust lo hi 1 (n : Int) with | (lo, hi) => pure (lo, (1 : Int), Builtin.Slice.slicePlaces lo hi 1)) _ _ s
  rw [adjust_gen lo hi n]
  show wpAny _ _ (pure (((sIx n 0 lo : Nat) : Int), (1 : Int), Builtin.Slice.slicePlaces ((sIx n 0 lo : Nat) : Int) ((sIx n n hi : Nat) : Int) 1)) _ _ s
  rw [places_gen]
  exact wpAny_pure h
theorem pick_gen (xs : Array Value) (i k : Nat) : ((List.range k).filterMap fun (m : Nat) => xs[((i : Int) + (m : Int) * 1).toNat]?).toArray = ((xs.toList.drop i).take k).toArray := by
  have e : (fun (m : Nat) => xs[((i : Int) + (m : Int) * 1).toNat]?) = fun m => xs[i + m]? := by
    funext m
    have : ((i : Int) + (m : Int) * 1).toNat = i + m := by omega
    rw [this]
  rw [e]
  have := pick_run xs i k
  rw [List.filterMap_map] at this
  have e2 : ((fun x => xs[x]?) ∘ fun x => i + x) = fun m => xs[i + m]? := rfl
  rw [e2] at this
  rw [this]
theorem getItem_tuple_cut {t sl : Addr} {items : Array Value} {vl vu : Value} {lo hi : Option Int} {Q : Value → Shared → Prop} (ht : IsTup s.heap t items) (hs : s.heap.IsSliceOf sl vl vu .none) (pl : IsPart vl lo) (pu : IsPart vu hi)
    (hw : ¬ (sIx items.size 0 lo = 0 ∧ sIx items.size items.size hi = items.size))
    (h : Q (.ref s.heap.objs.size) { s with heap := s.heap.push { cls := .type "tuple", data := .seq ((items.toList.drop (sIx items.size 0 lo)).take (sIx items.size items.size hi - sIx items.size 0 lo)).toArray } })
    (hsz : items.size ≤ sizeLine) : wpAny (model prog w) A (getItem (.ref t) (.ref sl)) Q E s := by
  have htake : sizeOk (.seq ((items.toList.drop (sIx items.size 0 lo)).take (sIx items.size items.size hi - sIx items.size 0 lo)).toArray) := by
    show ((items.toList.drop (sIx items.size 0 lo)).take (sIx items.size items.size hi - sIx items.size 0 lo)).toArray.size ≤ sizeLine
    rw [List.size_toArray, List.length_take, List.length_drop, Array.length_toList]
    omega
  have hj : sIx items.size items.size hi ≤ items.size := sIx_le _ _ (Nat.le_refl _) hi
  obtain ⟨os, hos, hcs, hds⟩ := id hs
  have hTs : s.TypeIs (.ref sl) "slice" := ⟨os, hos, hcs⟩
  unfold getItem
  try with_reducible refine wpAny_holding ?_
  first | refine wpAny_bind (wpAny_pure ?_) | skip
  refine wpAny_bind (wpAny_sequenceKey ht.typeIs (by decide) ?_)
  refine wpAny_bind (wpAny_callSpecial?_slot (name := Str.ofString "__getitem__") ht.typeIs PyProof.Rows.slot_tuple_getitem
    (wpAny_call_entry PyProof.Rows.slot_tuple_getitem ht.typeIs entry_tuple_getitem ?_ (args_tuple_getitem _ _)))
  show wpAny _ _ (Builtin.Tuple.tupleItemsOf (.ref t) >>= _) _ _ s
  refine wpAny_bind (tupleItemsOf_ ht ?_)
  refine wpAny_bind (wpAny_typeOf hTs ?_)
  rw [if_pos (by decide)]
  refine wpAny_bind (sliceApplied_gen hs pl pu ?_)
  have hno : ¬ ((((sIx items.size 0 lo : Nat) : Int) == 0 && (1 : Int) == 1 && (sIx items.size items.size hi - sIx items.size 0 lo) == items.size) = true) := by
    intro q
    rw [Bool.and_eq_true, Bool.and_eq_true] at q
    have q1 : ((sIx items.size 0 lo : Nat) : Int) = 0 := eq_of_beq q.1.1
    have q2 : sIx items.size items.size hi - sIx items.size 0 lo = items.size := eq_of_beq q.2
    exact hw ⟨by omega, by omega⟩
  show wpAny _ _ (if (((sIx items.size 0 lo : Nat) : Int) == 0 && (1 : Int) == 1 && (sIx items.size items.size hi - sIx items.size 0 lo) == items.size) = true then _ else _) _ _ s
  rw [if_neg hno, pick_gen]
  first
    | exact wpAny_bind (m := Builtin.Tuple.tupleExact _) (wpAny_newObj_type (wpAny_pure ⟨_, rfl, wpAny_pure h⟩) htake)
    | exact wpAny_bind (m := Builtin.Tuple.tupleExact _) (wpAny_newObj_type (wpAny_bind (wpAny_pure (wpAny_pure ⟨_, rfl, wpAny_pure h⟩))) htake)
    | exact wpAny_bind (wpAny_bind (m := Builtin.Tuple.tupleExact _) (wpAny_newObj_type (wpAny_pure (wpAny_pure ⟨_, rfl, wpAny_pure h⟩)) htake))
    | exact wpAny_bind (wpAny_bind (m := Builtin.Tuple.tupleExact _) (wpAny_newObj_type (wpAny_pure ⟨_, rfl, wpAny_pure h⟩) htake))
end
end HT
namespace L2
open PySem PySem.Spec PyProof.Rows
abbrev TO := St → Hp → (Option Int → Hp → Prop) → Prop
def PO (X : Cx) (e : Option Expr) (t : TO) : Prop :=
  ∀ (pins : List (Addr × Obj)) (s : Shared) (σ : St) (H : Hp) (Q : Option Int → Hp → Prop), Inv X pins σ H s → t σ H Q →
    wpAny (model X.prog X.w) X.A (evalPart e X.env) (fun u s' => ∃ o H', Inv X pins σ H' s' ∧ IsPart u o ∧ Q o H') X.xe s
def tNoPart : TO := fun _ H Q => Q none H
def tPart (t : TE) : TO := fun σ H Q => t σ H fun x H1 => ∃ i, x = .int i ∧ Q (some i) H1
section
variable {X : Cx} {e : Expr} {te : TE} {lo hi : Option Expr} {tl th : TO} {pos p2 : Pos}
theorem po_none : PO X none tNoPart := by
  intro pins s σ H Q I h
  rw [evalPart_none]
  exact wpAny_pure ⟨none, H, I, .none, h⟩
theorem po_some (h : PE X e te) : PO X (some e) (tPart te) := by
  intro pins s σ H Q I hw
  rw [evalPart_some]
  refine thn (h pins s σ H _ I hw) fun u s1 ⟨x, H1, I1, r1, q1⟩ => ?_
  obtain ⟨i, rfl, q⟩ := q1
  obtain ⟨t, rfl⟩ := r1
  exact ⟨some i, H1, I1, .int i t, q⟩
def SlR (X : Cx) (r : V → Option Int → Option Int → Hp → VK → Prop) : Prop :=
  ∀ (pins : List (Addr × Obj)) (s : Shared) (σ : St) (H : Hp) (x : V) (v vl vu : Value) (lo hi : Option Int) (sl : Addr) (Q : VK), Inv X pins σ H s → RelV x v → s.heap.IsSliceOf sl vl vu .none → IsPart vl lo → IsPart vu hi → r x lo hi H Q →
    ∃ T id, typeLookup (.type T) "__getitem__" = pure (some (.builtin id)) ∧ s.TypeIs v T ∧ wpAny (model X.prog X.w) X.A (getItem v (.ref sl)) (EP X pins σ Q) X.xe s
theorem SlR.or {r r' : V → Option Int → Option Int → Hp → VK → Prop} (h : SlR X r) (h' : SlR X r') : SlR X (fun x lo hi H Q => r x lo hi H Q ∨ r' x lo hi H Q) := by
  intro pins s σ H x v vl vu lo hi sl Q I rx hs pl pu q
  rcases q with q | q
  · exact h pins s σ H x v vl vu lo hi sl Q I rx hs pl pu q
  · exact h' pins s σ H x v vl vu lo hi sl Q I rx hs pl pu q
def tSl (r : V → Option Int → Option Int → Hp → VK → Prop) (te : TE) (tl th : TO) : TE := fun σ H Q => te σ H fun x H1 => tl σ H1 fun l H2 => th σ H2 fun u H3 => r x l u H3 Q
theorem pe_slice {r : V → Option Int → Option Int → Hp → VK → Prop} (hr : SlR X r) (he : PE X e te) (hl : PO X lo tl) (hu : PO X hi th) : PE X (.Subscript e (.Slice lo hi none p2) pos) (tSl r te tl th) := by
  intro pins s σ H Q I h
  refine Subscript_ (thn (he pins s σ H _ I h) fun v s1 ⟨x, H1, I1, r1, q1⟩ => ?_)
  refine wpAny_Slice (thn (hl pins s1 σ H1 _ I1 q1) fun vl s2 ⟨l, H2, I2, pl, q2⟩ => thn (hu pins s2 σ H2 _ I2 q2) fun vu s3 ⟨u, H3, I3, pu, q3⟩ => ?_)
  rw [evalPart_none]
  refine wpAny_pure ?_
  have I4 : Inv X pins σ H3 { s3 with heap := s3.heap.push { cls := .type "slice", data := .fields #[vl, vu, .none] } } := I3.kept (t' := s3.toks) fun b ob q => Heap.get?_push_of_some _ q
  obtain ⟨T, id, hT, ht, hg⟩ := hr pins { s3 with heap := s3.heap.push { cls := .type "slice", data := .fields #[vl, vu, .none] } } σ H3 x v vl vu l u s3.heap.objs.size Q I4 r1 (Heap.IsSliceOf.new ..) pl pu q3
  show wpAny (model X.prog X.w) X.A (subscriptTail e (.Slice lo hi none p2) v (.ref s3.heap.objs.size)) (EP X pins σ Q) X.xe { s3 with heap := s3.heap.push { cls := .type "slice", data := .fields #[vl, vu, .none] } }
  exact tail_any (ops := [.ref s3.heap.objs.size, v]) ht hT hg (by with_unfolding_all rfl)
def cutV (xs : List V) (lo hi : Option Int) : List V := (xs.drop (HT.sIx xs.length 0 lo)).take (HT.sIx xs.length xs.length hi - HT.sIx xs.length 0 lo)
theorem cutV_length (xs : List V) (lo hi : Option Int) : (cutV xs lo hi).length ≤ xs.length := by
  unfold cutV
  rw [List.length_take, List.length_drop]
  omega
def rSlT (K : PySem.W.Frag) : V → Option Int → Option Int → Hp → VK → Prop := fun x lo hi H Q => ∃ a xs, x = .ref a ∧ SqT K H a xs ∧
  ¬ (HT.sIx xs.length 0 lo = 0 ∧ HT.sIx xs.length xs.length hi = xs.length) ∧ ∀ p, H p = none → Q (.ref p) (upd H p (.tup (cutV xs lo hi)))
theorem sl_tup : SlR X (rSlT X.K) := by
  intro pins s σ H x v vl vu lo hi sl Q I rx hs pl pu h
  obtain ⟨a, xs, rfl, hx, hw, q⟩ := h
  cases rx
  obtain ⟨its, r, ht, hz⟩ := I.tuple hx
  have hlen : its.toArray.size = xs.length := by rw [List.size_toArray]; exact r.length.symm
  refine ⟨"tuple", _, PyProof.Rows.slot_tuple_getitem.lookup, ht.typeIs, ?_⟩
  refine HT.getItem_tuple_cut ht hs pl pu (by rw [hlen]; exact hw) ?_ (by rw [hlen]; exact hz)
  rw [hlen]
  refine ⟨.ref s.heap.objs.size, _, I.laid (t' := s.toks) (o := .tup (cutV xs lo hi)) (fun b ob q => Heap.get?_push_of_some _ q) (Nat.le_refl _) ?_, rfl, q _ (I.hok.fresh (Nat.le_refl _))⟩
  exact ⟨Nat.le_trans (cutV_length xs lo hi) hz, _, (r.drop (HT.sIx xs.length 0 lo)).take (HT.sIx xs.length xs.length hi - HT.sIx xs.length 0 lo), IsTupD.new _ _⟩
def rCatT (K : PySem.W.Frag) : R2 := fun x y H Q => ∃ a b xs ys, x = .ref a ∧ y = .ref b ∧ SqT K H a xs ∧ SqT K H b ys ∧ xs ≠ [] ∧ xs.length + ys.length ≤ sizeLine ∧
  (ys = [] → Q (.ref a) H) ∧ (ys ≠ [] → ∀ p, H p = none → Q (.ref p) (upd H p (.tup (xs ++ ys))))
theorem Vals.nil_iff {xs : List V} {us : List Value} (r : Vals xs us) : us = [] ↔ xs = [] := by
  cases r with
  | nil => simp
  | cons _ _ => simp
theorem op_catT : OpR X (binaryOp .Add) (rCatT X.K) := by
  intro pins s σ H x y v u Q I rx ry h
  obtain ⟨a, b, xs, ys, rfl, rfl, ha, hb, hx, hz, q1, q2⟩ := h
  cases rx
  cases ry
  obtain ⟨its, r1, p1, _⟩ := I.tuple ha
  obtain ⟨its2, r2, p2, _⟩ := I.tuple hb
  refine HT.cat_tup p1 p2 (fun z => hx (r1.nil_iff.mp z)) (fun z => ⟨.ref a, H, I, rfl, q1 (r2.nil_iff.mp z)⟩) (fun z => ?_) (by rw [← r1.length, ← r2.length]; exact hz)
  refine ⟨.ref s.heap.objs.size, _, I.laid (t' := s.toks) (o := .tup (xs ++ ys)) (fun b ob q => Heap.get?_push_of_some _ q) (Nat.le_refl _) ?_, rfl, q2 (fun w => z (r2.nil_iff.mpr w)) _ (I.hok.fresh (Nat.le_refl _))⟩
  exact ⟨by rw [List.length_append]; exact hz, _, r1.append r2, IsTupD.new _ _⟩
end
end L2
namespace L2
open PySem PySem.Spec PyProof.Rows
def ixN (n : Nat) (i : Int) : Option Nat := if 0 ≤ i then (if i < n then some i.toNat else none) else if -(n : Int) ≤ i then some (i + n).toNat else none
def atI {α : Type} (xs : List α) (i : Int) : Option α := (ixN xs.length i).bind fun j => xs[j]?
theorem ixN_seq {n : Nat} {i : Int} {j : Nat} (h : ixN n i = some j) : seqIndex? i n = some j ∧ j < n ∧ -(n : Int) ≤ i ∧ i < n := by
  unfold ixN at h
  by_cases h0 : 0 ≤ i
  · rw [if_pos h0] at h
    by_cases h1 : i < n
    · rw [if_pos h1] at h
      have e : i.toNat = j := Option.some.inj h
      exact ⟨by rw [seqIndex_of h0 h1, e], by omega, by omega, h1⟩
    · rw [if_neg h1] at h; cases h
  · rw [if_neg h0] at h
    by_cases h1 : -(n : Int) ≤ i
    · rw [if_pos h1] at h
      have e : (i + n).toNat = j := Option.some.inj h
      exact ⟨by rw [seqIndex_neg (by omega) h1, e], by omega, h1, by omega⟩
    · rw [if_neg h1] at h; cases h
theorem atI_get {α : Type} {xs : List α} {i : Int} {v : α} (h : atI xs i = some v) : ∃ j, seqIndex? i xs.length = some j ∧ xs[j]? = some v ∧ j < xs.length ∧ -(xs.length : Int) ≤ i ∧ i < xs.length := by
  unfold atI at h
  cases e : ixN xs.length i with
  | none => rw [e] at h; cases h
  | some j =>
    rw [e] at h
    obtain ⟨h1, h2, h3, h4⟩ := ixN_seq e
    exact ⟨j, h1, h, h2, h3, h4⟩
theorem atI_nat {α : Type} {xs : List α} {j : Nat} {v : α} (h : xs[j]? = some v) : atI xs (j : Int) = some v := by
  have hj : j < xs.length := (List.getElem?_eq_some_iff.mp h).1
  have e : ixN xs.length (j : Int) = some j := by
    unfold ixN
    rw [if_pos (by omega), if_pos (by omega)]; simp
  unfold atI; rw [e]; exact h
def PlainIx (b : Expr) : Prop := ∀ o i, subscripted b false o i = operate [o, i] (getItem o i)
def IxR (X : Cx) (r : R2) : Prop :=
  ∀ (value slice : Expr) (pins : List (Addr × Obj)) (s : Shared) (σ : St) (H : Hp) (x y : V) (v u : Value) (Q : VK), Inv X pins σ H s → RelV x v → RelV y u → r x y H Q →
    subscripted slice false v u = operate [v, u] (getItem v u) → wpAny (model X.prog X.w) X.A (subscriptTail value slice v u) (EP X pins σ Q) X.xe s
def MtR (X : Cx) (id : String) (r : V → List V → Hp → VK → Prop) : Prop :=
  ∀ (pins : List (Addr × Obj)) (s : Shared) (σ : St) (H : Hp) (x : V) (xs : List V) (v : Value) (us : List Value) (Q : VK), Inv X pins σ H s → RelV x v → Vals xs us → r x xs H Q →
    wpAny (model X.prog X.w) X.A (call (.builtin id) (v :: us)) (EP X pins σ Q) X.xe s
section
variable {X : Cx} {a b : Expr} {ta tb : TE} {pos : Pos}
theorem IxR.or {r r' : R2} (h : IxR X r) (h' : IxR X r') : IxR X (fun x y H Q => r x y H Q ∨ r' x y H Q) := by
  intro value slice pins s σ H x y v u Q I rx ry q hs
  rcases q with q | q
  · exact h value slice pins s σ H x y v u Q I rx ry q hs
  · exact h' value slice pins s σ H x y v u Q I rx ry q hs
theorem MtR.or {id : String} {r r' : V → List V → Hp → VK → Prop} (h : MtR X id r) (h' : MtR X id r') : MtR X id (fun x xs H Q => r x xs H Q ∨ r' x xs H Q) := by
  intro pins s σ H x xs v us Q I rx rs q
  rcases q with q | q
  · exact h pins s σ H x xs v us Q I rx rs q
  · exact h' pins s σ H x xs v us Q I rx rs q
theorem pe_ix {r : R2} (hr : IxR X r) (ha : PE X a ta) (hb : PE X b tb) (hs : PlainIx b) : PE X (.Subscript a b pos) (tOp r ta tb) := by
  intro pins s σ H Q I h
  exact Subscript_ (binT ha hb I h fun v u s2 x y H2 I2 rx ry q => hr a b pins s2 σ H2 x y v u Q I2 rx ry q (hs _ _))
def rIxL (K : PySem.W.Frag) : R2 := fun x y H Q => ∃ p xs i v, x = .ref p ∧ y = .int i ∧ SqL K H p xs ∧ atI xs i = some v ∧ Q v H
def rIxT (K : PySem.W.Frag) : R2 := fun x y H Q => ∃ p xs i v, x = .ref p ∧ y = .int i ∧ SqT K H p xs ∧ atI xs i = some v ∧ Q v H
def rIxS : R2 := fun x y H Q => ∃ z i c, x = .str z ∧ y = .int i ∧ z.length ≤ sizeLine ∧ atI z.cps.toList i = some c ∧ Q (.str ⟨#[c]⟩) H
theorem ix_list : IxR X (rIxL X.K) := by
  intro value slice pins s σ H x y v u Q I rx ry h hs
  obtain ⟨p, xs, i, z, rfl, rfl, hq, he, q⟩ := h
  cases rx
  obtain ⟨t, rfl⟩ := ry
  obtain ⟨its, r, pl, hz⟩ := I.list hq
  obtain ⟨j, h1, h2, h3, h4, h5⟩ := atI_get he
  obtain ⟨w, ew, rw'⟩ := r.get h2
  have hl := r.length
  have hn := line63
  have fin : EP X pins σ Q w s := ⟨z, H, I, rw', q⟩
  by_cases h0 : 0 ≤ i
  · have hj : i.toNat = j := by
      rw [seqIndex_of h0 h5] at h1
      exact Option.some.inj h1
    exact item_listR pl.isList h0 (by omega) (by rw [hj]; simpa using ew) fin hs
  · have hj : (i + (its.toArray.size : Int)).toNat = j := by
      rw [seqIndex_neg (by omega) h4] at h1
      rw [List.size_toArray, ← hl]
      exact Option.some.inj h1
    exact subscriptTail_builtinR (x := w) pl.isList.typeIs slot_list_getitem.lookup
      (wpAny_getItem_list_neg (Q := fun r s' => r = w ∧ EP X pins σ Q r s') pl.isList (by omega) (by rw [List.size_toArray] <;> omega) (by omega) (by rw [hj]; simpa using ew) ⟨rfl, fin⟩) hs
theorem ix_tup : IxR X (rIxT X.K) := by
  intro value slice pins s σ H x y v u Q I rx ry h hs
  obtain ⟨p, xs, i, z, rfl, rfl, hq, he, q⟩ := h
  cases rx
  obtain ⟨t, rfl⟩ := ry
  obtain ⟨its, r, pl, hz⟩ := I.tuple hq
  obtain ⟨j, h1, h2, h3, h4, h5⟩ := atI_get he
  obtain ⟨w, ew, rw'⟩ := r.get h2
  have hl := r.length
  have hn := line63
  have fin : EP X pins σ Q w s := ⟨z, H, I, rw', q⟩
  exact subscriptTail_builtinR (x := w) pl.typeIs slot_tuple_getitem.lookup
    (getItem_tuple (j := j) (Q := fun r s' => r = w ∧ EP X pins σ Q r s') pl (by omega) (by omega) (by rw [List.size_toArray, ← hl]; exact h1) (by simpa using ew) ⟨rfl, fin⟩) hs
theorem ix_str : IxR X rIxS := by
  intro value slice pins s σ H x y v u Q I rx ry h hs
  obtain ⟨z, i, c, rfl, rfl, hz, he, q⟩ := h
  obtain ⟨t, rfl⟩ := rx
  obtain ⟨t', rfl⟩ := ry
  obtain ⟨j, h1, h2, h3, h4, h5⟩ := atI_get he
  have hl : z.cps.toList.length = z.length := by simp [Str.length]
  rw [hl] at h1 h4 h5
  have hn := line63
  exact tail_any (typeIs_str s z t) slot_str_getitem.lookup (getItem_str (c := c) (by
    have e1 : decide (i < -(2 ^ 63 : Int)) = false := decide_eq_false (by omega)
    have e2 : decide (i ≥ 2 ^ 63) = false := decide_eq_false (by omega)
    rw [e1, e2, Bool.or_false]) (by rw [h1]; simpa using h2) ⟨.str ⟨#[c]⟩, H, I.tok _, ⟨_, rfl⟩, q⟩) hs
def rIx (K : PySem.W.Frag) : R2 := fun x y H Q => rIxL K x y H Q ∨ rIxT K x y H Q ∨ rIxS x y H Q
theorem ix_seq : IxR X (rIx X.K) := ix_list.or (ix_tup.or ix_str)
theorem Inv.lst {pins : List (Addr × Obj)} {σ : St} {H : Hp} {s : Shared} {p : Addr} {xs : List V} (I : Inv X pins σ H s) (h : H p = some (.lst xs)) :
    ∃ (its : List Value) (n : Nat), Vals xs its ∧ s.heap.get? p = some { cls := .type "list", data := .seq its.toArray n } ∧ xs.length ≤ sizeLine := by
  obtain ⟨z, its, n, r, e⟩ := I.hok p _ h
  exact ⟨its, n, r, e, z⟩
theorem slice_bounds (lo hi : Option Int) (n : Nat) : (sliceBounds lo hi none n).1 = ((HT.sIx n 0 lo : Nat) : Int) ∧ (sliceBounds lo hi none n).2.1 = ((HT.sIx n n hi : Nat) : Int) ∧ (sliceBounds lo hi none n).2.2 = 1 := by
  refine ⟨?_, ?_, rfl⟩
  · cases lo with
    | none => simp [sliceBounds, HT.sIx]
    | some i =>
      simp only [sliceBounds, HT.sIx, Option.getD_none, show (1 : Int) > 0 by decide, if_true]
      by_cases h : i < 0
      · simp only [h, if_true] <;> omega
      · simp only [h, if_false] <;> omega
  · cases hi with
    | none => simp [sliceBounds, HT.sIx]
    | some i =>
      simp only [sliceBounds, HT.sIx, Option.getD_none, show (1 : Int) > 0 by decide, if_true]
      by_cases h : i < 0
      · simp only [h, if_true] <;> omega
      · simp only [h, if_false] <;> omega
theorem slicePick_cut (its : List Value) (lo hi : Option Int) : slicePick its.toArray lo hi none = ((its.drop (HT.sIx its.length 0 lo)).take (HT.sIx its.length its.length hi - HT.sIx its.length 0 lo)).toArray := by
  obtain ⟨h1, h2, h3⟩ := slice_bounds lo hi its.toArray.size
  unfold slicePick
  rw [h1, h2, h3]
  simp only [sliceRange_one, pick_run, List.size_toArray] <;> rfl
def rSlL (K : PySem.W.Frag) : V → Option Int → Option Int → Hp → VK → Prop := fun x lo hi H Q => ∃ a xs, x = .ref a ∧ SqL K H a xs ∧ ∀ p, H p = none → Q (.ref p) (upd H p (.lst (cutV xs lo hi)))
theorem sl_list : SlR X (rSlL X.K) := by
  intro pins s σ H x v vl vu lo hi sl Q I rx hs pl pu h
  obtain ⟨a, xs, rfl, hx, q⟩ := h
  cases rx
  obtain ⟨its, r, ht, hz⟩ := I.list hx
  have hlen := r.length
  refine ⟨"list", _, slot_list_getitem.lookup, ht.isList.typeIs, ?_⟩
  refine wpAny_getItem_list_slice ht.isList hs pl pu .none (by simp) ?_ (by rw [List.size_toArray] <;> omega)
  rw [slicePick_cut, ← hlen]
  refine ⟨.ref s.heap.objs.size, _, I.laid (t' := s.toks) (o := .lst (cutV xs lo hi)) (fun b ob q => Heap.get?_push_of_some _ q) (Nat.le_refl _) ?_, rfl, q _ (I.hok.fresh (Nat.le_refl _))⟩
  exact ⟨Nat.le_trans (cutV_length xs lo hi) hz, _, 0, (r.drop (HT.sIx xs.length 0 lo)).take (HT.sIx xs.length xs.length hi - HT.sIx xs.length 0 lo), Heap.get?_push_size _ rfl⟩
theorem CallR.or {f : Value} {r r' : List V → Hp → VK → Prop} (h : CallR X f r) (h' : CallR X f r') : CallR X f (fun xs H Q => r xs H Q ∨ r' xs H Q) := by
  intro pins s σ H xs us Q I rs q
  rcases q with q | q
  · exact h pins s σ H xs us Q I rs q
  · exact h' pins s σ H xs us Q I rs q
theorem call_list_of : CallR X (.type "list") (fun xs H Q => ∃ p ys, xs = [.ref p] ∧ (SqL X.K H p ys ∨ SqT X.K H p ys) ∧ ∀ l, H l = none → Q (.ref l) (upd H l (.lst ys))) := by
  intro pins s σ H xs us Q I r h
  obtain ⟨p, ys, rfl, hq, q⟩ := h
  obtain ⟨u, rfl, rx⟩ := vals1 r
  cases rx
  have fin : ∀ (its : List Value), Vals ys its → ys.length ≤ sizeLine → ∀ (h' : Heap) (c' : Nat), (∀ b o', s.heap.get? b = some o' → h'.get? b = some o') →
      h'.get? s.heap.objs.size = some { cls := .type "list", dict := none, data := .seq its.toArray c', slots := #[] } → EP X pins σ Q (.ref s.heap.objs.size) { s with heap := h' } := fun its r' hz h' c' kp e =>
    ⟨.ref s.heap.objs.size, _, I.laid (t' := s.toks) kp (Nat.le_refl _) (show ObjOk X.prog X.w _ h' _ (.lst ys) from ⟨hz, its, c', r', e⟩), rfl, q _ (I.hok.fresh (Nat.le_refl _))⟩
  rcases hq with hq | hq
  · obtain ⟨its, r', pl, hz⟩ := I.list hq
    have hlen := r'.length
    obtain ⟨o, ho, hc, n, hd⟩ := pl.isList
    exact call_list_seq p (.inl rfl) ho hc hd (fun h' c' kp e => fin its r' hz h' c' kp e) (by simp only [List.size_toArray] <;> omega)
  · obtain ⟨its, r', pl, hz⟩ := I.tuple hq
    have hlen := r'.length
    obtain ⟨o, ho, hc, n, hd⟩ := pl
    exact call_list_seq p (.inr rfl) ho hc hd (fun h' c' kp e => fin its r' hz h' c' kp e) (by simp only [List.size_toArray] <;> omega)
theorem call_tuple_of : CallR X (.type "tuple") (fun xs H Q => ∃ p ys, xs = [.ref p] ∧ ((SqL X.K H p ys ∧ ∀ l, H l = none → Q (.ref l) (upd H l (.tup ys))) ∨ (SqT X.K H p ys ∧ Q (.ref p) H))) := by
  intro pins s σ H xs us Q I r h
  obtain ⟨p, ys, rfl, h⟩ := h
  obtain ⟨u, rfl, rx⟩ := vals1 r
  cases rx
  rcases h with ⟨hq, q⟩ | ⟨hq, q⟩
  · obtain ⟨its, r', pl, hz⟩ := I.list hq
    have hlen := r'.length
    refine call_tuple_list pl.isList (fun h' kp => ?_) (by simp only [List.size_toArray] <;> omega)
    have I1 : Inv X pins σ H { s with heap := h' } := I.kept (t' := s.toks) kp
    have I2 : Inv X pins σ (upd H h'.objs.size (.tup ys)) { s with heap := h'.push { cls := .type "tuple", data := .seq its.toArray } } :=
      I1.laid (t' := s.toks) (fun b o e => Heap.get?_push_of_some _ e) (Nat.le_refl _) (show ObjOk X.prog X.w _ _ _ (.tup ys) from ⟨hz, its, r', IsTupD.new _ _⟩)
    exact ⟨.ref h'.objs.size, _, I2, rfl, q _ (I1.hok.fresh (Nat.le_refl _))⟩
  · obtain ⟨its, r', pl, hz⟩ := I.tuple hq
    exact call_tuple_same pl ⟨.ref p, H, I, rfl, q⟩
def tyV (K : PySem.W.Frag) (T : String) (x : V) (H : Hp) : Prop := match x with
  | .str _ => T = "str"
  | .int _ => T = "int"
  | .ref p => (T = "list" ∧ ∃ xs, SqL K H p xs) ∨ (T = "tuple" ∧ ∃ o, K.lookup p = some o ∧ o.cls = .type "tuple" ∧ o.dict = none) ∨
      (T = "dict" ∧ ((∃ kvs, H p = some (.dK kvs)) ∨ ∃ kvs, H p = some (.dT kvs))) ∨ (T = "set" ∧ ∃ S n, H p = some (.set S n))
  | _ => False
theorem tyV_is {pins : List (Addr × Obj)} {σ : St} {H : Hp} {s : Shared} {T : String} {x : V} {v : Value} (I : Inv X pins σ H s) (r : RelV x v) (ty : tyV X.K T x H) :
    s.TypeIs v T ∧ ∀ a, v = .ref a → ∃ ob, s.heap.get? a = some ob ∧ ob.dict = none := by
  cases x with
  | str z =>
    obtain ⟨t, rfl⟩ := r
    cases (show T = "str" from ty)
    exact ⟨typeIs_str s z t, fun _ e => nomatch e⟩
  | int i =>
    obtain ⟨t, rfl⟩ := r
    cases (show T = "int" from ty)
    exact ⟨typeIs_int s i t, fun _ e => nomatch e⟩
  | ref p =>
    cases r
    rcases ty with ⟨rfl, xs, hq⟩ | ⟨rfl, o, hk, hc, hd⟩ | ⟨rfl, hk⟩ | ⟨rfl, S, n, hk⟩
    · obtain ⟨its, _, pl, _⟩ := I.list hq
      refine ⟨pl.isList.typeIs, fun a e => ?_⟩
      cases e
      obtain ⟨o, n, e, c, hd, _⟩ := pl
      exact ⟨o, e, hd⟩
    · refine ⟨⟨o, I.kIn p o hk, hc⟩, fun a e => ?_⟩
      cases e
      exact ⟨o, I.kIn _ o hk, hd⟩
    · have z : ∃ o, s.heap.get? p = some o ∧ o.ExactDict := by
        rcases hk with ⟨kvs, hk⟩ | ⟨kvs, hk⟩
        · obtain ⟨_, _, _, _, o, _, _, e, ex, _⟩ := I.hok p _ hk
          exact ⟨o, e, ex⟩
        · obtain ⟨_, _, _, _, o, _, _, e, ex, _⟩ := I.hok p _ hk
          exact ⟨o, e, ex⟩
      obtain ⟨o, e, ex⟩ := z
      refine ⟨⟨o, e, ex.1⟩, fun a e2 => ?_⟩
      cases e2
      exact ⟨o, e, ex.2.1⟩
    · obtain ⟨o, _, _, _, e, ex, _⟩ := I.hok p _ hk
      refine ⟨⟨o, e, ex.1⟩, fun a e2 => ?_⟩
      cases e2
      exact ⟨o, e, ex.2.1⟩
  | _ => exact False.elim ty
def tBM (K : PySem.W.Frag) (T : String) (r : V → List V → Hp → VK → Prop) (to : TE) (t : TA) : TE := fun σ H Q => to σ H fun x H1 => tyV K T x H1 ∧ t σ H1 fun xs H2 => r x xs H2 Q
variable {o e : Expr} {es : List Expr} {to : TE} {t : TA} {name : Str} {apos cpos : Pos} {T id : String} {r : V → List V → Hp → VK → Prop}
theorem pe_bm (pa : PlainAttrs T) (slot : Slot T name id) (hty : typeOf (.builtin id) = pure (.type "method_descriptor")) (hm : MtR X id r) (ho : PE X o to) (ha : PA X (e :: es) t)
    (hbase : attributeBase o name X.env (eval o X.env) = eval o X.env := by rfl)
    (hfew : ((backTo cpos (starEach (e :: es) X.env)).all (fun x => !x.1) && (backToKw cpos (keywordEach [] X.env)).all (fun x => x.1.isSome)
      && decide ((e :: es).length + ([] : List Keyword).length + (if ([] : List Keyword).isEmpty then 0 else 1) < 30)) = true := by rfl)
    (hline : (apos.endLine == cpos.line) = true := by rfl) (hs : starEach (e :: es) X.env = (false, eval e X.env) :: starEach es X.env := by rfl) (hplain : (backTo cpos (starEach es X.env)).any (·.1) = false := by rfl) :
    PE X (.Call (.Attribute o name apos) (e :: es) [] cpos) (tBM X.K T r to t) := by
  intro pins s σ H Q I h
  refine wpAny_Call_method_late hbase hfew hline rfl (thn (ho pins s σ H _ I h) fun v s1 ⟨x, H1, I1, r1, ty, q1⟩ => ?_)
  obtain ⟨h1, h2⟩ := tyV_is I1 r1 ty
  refine ⟨T, id, pa, slot, hty, h1, h2, ?_⟩
  have hA := ha cpos pins s1 σ H1 _ I1 q1
  rw [hs] at hA ⊢
  refine Calls.callWith_builtin (by show (false || (backTo cpos (starEach es X.env)).any (·.1)) = false; rw [hplain] <;> rfl) (Calls.evalArgs_plain ?_)
  exact thn hA fun us s2 ⟨vs, H2, I2, r2, q2⟩ => hm pins s2 σ H2 x vs v us Q I2 r1 r2 q2
/- xs.append(e), list.index on a module's tuple .. are MtR facts of 06m -/
end
end L2
namespace L2
open PySem PySem.Spec PyProof.Rows
def MtM (X : Cx) (id : String) (r : V → List V → Hp → VK → Prop) : Prop :=
  ∀ (pins : List (Addr × Obj)) (s : Shared) (σ : St) (H : Hp) (x : V) (xs : List V) (v : Value) (us : List Value) (Q : VK), Inv X pins σ H s → RelV x v → Vals xs us → r x xs H Q →
    wpAny (model X.prog X.w) X.A (call (.builtin id) (v :: us)) (EP X pins σ Q) X.xe s
theorem Vals.one : ∀ {x : V} {us : List Value}, Vals [x] us → ∃ u, us = [u] ∧ RelV x u
  | _, _, .cons r .nil => ⟨_, rfl, r⟩
theorem Vals.two : ∀ {x y : V} {us : List Value}, Vals [x, y] us → ∃ u v, us = [u, v] ∧ RelV x u ∧ RelV y v
  | _, _, _, .cons r (.cons q .nil) => ⟨_, _, rfl, r, q⟩
theorem Vals.zero : ∀ {us : List Value}, Vals [] us → us = []
  | _, .nil => rfl
theorem Vals.eraseIdx : ∀ {xs : List V} {us : List Value} (i : Nat), Vals xs us → Vals (xs.eraseIdx i) (us.eraseIdx i)
  | _, _, _, .nil => .nil
  | _, _, 0, .cons _ t => t
  | _, _, i + 1, .cons r t => .cons r (Vals.eraseIdx i t)
theorem Vals.reverse {xs : List V} {us : List Value} (h : Vals xs us) : Vals xs.reverse us.reverse := by
  induction h with
  | nil => exact .nil
  | cons r t ih => rw [List.reverse_cons, List.reverse_cons]; exact Vals.append ih (.cons r .nil)
theorem len_erase {α : Type} : ∀ (l : List α) (i : Nat), (l.eraseIdx i).length ≤ l.length
  | [], _ => Nat.le_refl _
  | _ :: _, 0 => Nat.le_succ _
  | _ :: r, i + 1 => Nat.succ_le_succ (len_erase r i)
section
variable {X : Cx} {pins : List (Addr × Obj)} {σ : St} {H : Hp} {s : Shared} {l b : Addr} {xs ys zs : List V}
theorem Inv.lset {its its' : List Value} {n : Nat} {f : Array Value → Array Value} {t' : Nat} (I : Inv X pins σ H s) (hH : H l = some (.lst xs))
    (e : s.heap.get? l = some { cls := .type "list", data := .seq its.toArray n }) (hf : f its.toArray = its'.toArray) (hv : Vals ys its') (hz : ys.length ≤ sizeLine) :
    Inv X pins σ (upd H l (.lst ys)) { s with heap := s.heap.update l (Obj.mapSeq f), toks := t' } := by
  have q := PySem.IsL.update e f
  rw [hf] at q
  refine I.write (x := l) (e := l) (by rw [hH]; exact trivial) (.inl rfl) (fun b' u hb hu => (Heap.get?_update_other s.heap (Obj.mapSeq f) (Ne.symm hb)).trans hu) ⟨_, q⟩ ?_
  exact ⟨hz, its', _, hv, q⟩
theorem Inv.lnew {its : List Value} {t' : Nat} (I : Inv X pins σ H s) (hv : Vals ys its) (hz : ys.length ≤ sizeLine) :
    Inv X pins σ (upd H s.heap.objs.size (.lst ys)) { s with heap := s.heap.push { cls := .type "list", data := .seq its.toArray }, toks := t' } :=
  I.laid (fun _ _ q => Heap.get?_push_of_some _ q) (Nat.le_refl _) ⟨hz, its, 0, hv, Heap.get?_push_size _ rfl⟩
theorem Inv.fresh (I : Inv X pins σ H s) : H s.heap.objs.size = none := I.hok.fresh (Nat.le_refl _)
theorem Inv.lstM (I : Inv X pins σ H s) (hH : H l = some (.lst xs)) : xs.length ≤ sizeLine ∧ ∃ (its : List Value) (n : Nat), Vals xs its ∧ xs.length = its.length ∧ s.heap.get? l = some { cls := .type "list", data := .seq its.toArray n } := by
  obtain ⟨z, its, n, r, e⟩ := I.hok l _ hH
  exact ⟨z, its, n, r, r.length, e⟩
end
section
variable {X : Cx}
def rAppend : V → List V → Hp → VK → Prop := fun x vs H Q => ∃ l xs y, x = .ref l ∧ vs = [y] ∧ H l = some (.lst xs) ∧ xs.length < sizeLine ∧ Q .non (upd H l (.lst (xs ++ [y])))
theorem mt_append : MtM X "list.append" rAppend := by
  intro pins s σ H x vs v us Q I rx rv h
  obtain ⟨l, xs, y, rfl, rfl, hH, hz, q⟩ := h
  cases rx
  obtain ⟨u, rfl, ru⟩ := rv.one
  obtain ⟨z, its, n, r, hl, e⟩ := I.lstM hH
  refine call_meets F.slot_list_append ⟨_, e, rfl⟩ F.entry_list_append (F.args_list_append_2 _ _) (PySem.list_append l its.toArray n u (by rw [List.size_toArray]; omega)) ⟨e, ?_⟩
  refine ⟨.non, _, I.lset (its' := its ++ [u]) hH e (by simp) (r.append (.cons ru .nil)) ?_, rfl, q⟩
  rw [List.length_append, List.length_singleton]
  omega
def rPopAt : V → List V → Hp → VK → Prop := fun x vs H Q => ∃ l xs i k y, x = .ref l ∧ vs = [.int i] ∧ H l = some (.lst xs) ∧ -(2 ^ 63) ≤ i ∧ i < 2 ^ 63 ∧ seqIndex? i xs.length = some k ∧ xs[k]? = some y ∧ Q y (upd H l (.lst (xs.eraseIdx k)))
theorem mt_popAt : MtM X "list.pop" rPopAt := by
  intro pins s σ H x vs v us Q I rx rv h
  obtain ⟨l, xs, i, k, y, rfl, rfl, hH, h1, h2, hk, hy, q⟩ := h
  cases rx
  obtain ⟨u, rfl, ru⟩ := rv.one
  obtain ⟨t, rfl⟩ := ru
  obtain ⟨z, its, n, r, hl, e⟩ := I.lstM hH
  obtain ⟨w, hw, rw'⟩ := r.get hy
  refine call_meets F.slot_list_pop ⟨_, e, rfl⟩ F.entry_list_pop (F.args_list_pop_2 _ _)
    (MeetsSeq.list_pop_at l its.toArray n i t k w (fitsIndex_both h1 h2) (by rw [List.size_toArray, ← hl]; exact hk) (by rw [← Array.getElem?_toList]; exact hw) (by rw [List.size_toArray]; omega)) ⟨e, ?_⟩
  refine ⟨y, _, I.lset (its' := its.eraseIdx k) hH e ?_ (r.eraseIdx k) ?_, rw', q⟩
  · show its.toArray.eraseIdxIfInBounds k = (its.eraseIdx k).toArray
    rw [List.eraseIdxIfInBounds_toArray]
  · have := len_erase xs k
    omega
def rCat : R2 := fun x y H Q => ∃ l b xs zs, x = .ref l ∧ y = .ref b ∧ H l = some (.lst xs) ∧ H b = some (.lst zs) ∧ xs.length + zs.length ≤ sizeLine ∧ ∀ p, H p = none → Q (.ref p) (upd H p (.lst (xs ++ zs)))
theorem op_cat : OpR X (binaryOp .Add) rCat := by
  intro pins s σ H x y v u Q I rx ry h
  obtain ⟨l, b, xs, zs, rfl, rfl, hH, hB, hz, q⟩ := h
  cases rx
  cases ry
  obtain ⟨z, its, n, r, hl, e⟩ := I.lstM hH
  obtain ⟨z2, its2, n2, r2, hl2, e2⟩ := I.lstM hB
  refine PySem.P.add_list e e2 ?_ (by rw [List.size_toArray, List.size_toArray]; omega)
  have ea : its.toArray ++ its2.toArray = (its ++ its2).toArray := by simp
  rw [ea]
  exact ⟨.ref _, _, I.lnew (t' := s.toks) (r.append r2) (by rw [List.length_append]; omega), rfl, q _ I.fresh⟩
end
section
variable {prog : Program} {w : World} {A : Around} {E : Value → Shared → Prop} {s : Shared}
end
section
variable {X : Cx}
end
end L2
namespace L2
open PySem PySem.Spec PyProof.Rows
theorem Vals.ints : ∀ {ns : List Int} {us : List Value}, Vals (ns.map V.int) us → IntsAre us ns
  | [], us, h => by
    rw [List.map_nil] at h
    cases h
    exact IntsAre.nil
  | n :: ns, us, h => by
    rw [List.map_cons] at h
    cases h with
    | cons r t =>
      obtain ⟨k, rfl⟩ := r
      exact IntsAre.cons n k (Vals.ints t)
theorem vals_of_ints : ∀ {us : List Value} {ns : List Int}, IntsAre us ns → Vals (ns.map V.int) us
  | _, _, .nil => by rw [List.map_nil]; exact Paired.nil
  | _, _, .cons n t h => by rw [List.map_cons]; exact Paired.cons (show RelV (V.int n) (Value.int n t) from ⟨t, rfl⟩) (vals_of_ints h)
theorem Vals.strs : ∀ {xs : List Str} {us : List Value}, Vals (xs.map V.str) us → StrsAre us xs
  | [], us, h => by
    rw [List.map_nil] at h
    cases h
    exact StrsAre.nil
  | x :: xs, us, h => by
    rw [List.map_cons] at h
    cases h with
    | cons r t =>
      obtain ⟨k, rfl⟩ := r
      exact StrsAre.cons x k (Vals.strs t)
theorem vals_of_strs : ∀ {us : List Value} {xs : List Str}, StrsAre us xs → Vals (xs.map V.str) us
  | _, _, .nil => by rw [List.map_nil]; exact Paired.nil
  | _, _, .cons x t h => by rw [List.map_cons]; exact Paired.cons (show RelV (V.str x) (Value.str x t) from ⟨t, rfl⟩) (vals_of_strs h)
theorem Vals.ref1 {a : Addr} {us : List Value} (r : Vals [V.ref a] us) : us = [Value.ref a] := by
  cases r with
  | cons r t =>
    cases t
    cases r
    rfl
section
variable {prog : Program} {w : World} {A : Around} {E : Value → Shared → Prop} {s : Shared} {l : Addr} {its : List Value} {ns : List Int} {Q : Value → Shared → Prop}
theorem sum_raw (hh : A.handled = none) (hl : s.heap.IsList l its.toArray) (hi : IntsAre its ns)
    (h : ∀ h' tk t', (∀ b o, s.heap.get? b = some o → h'.get? b = some o) → Q (.int ns.sum t') { s with heap := h', toks := tk }) : wpAny (model prog w) A (call (.builtin "sum") [.ref l]) Q E s := by
  obtain ⟨xs, e⟩ := hi.allInts.items
  have hn : numsOf (intItems xs).toList = ns := by rw [← e]; exact hi.numsOf
  rw [nums_intItems] at hn
  rw [e] at hl
  refine PySem.sum_intListG hh hl fun h' tk t' hk => ?_
  have := h h' tk t' hk
  rw [preSum_eq, List.take_of_length_le (by simp), hn]; exact this
end
section
variable {X : Cx}
def rSum (K : PySem.W.Frag) : List V → Hp → VK → Prop := fun vs H Q => ∃ (a : Addr) (ns : List Int), vs = [V.ref a] ∧ SqL K H a (ns.map V.int) ∧ Q (.int ns.sum) H
theorem cr_sum (hc : X.calm = true) : CallR X (.builtin "sum") (rSum X.K) := by
  intro pins s σ H vs us Q I r h
  obtain ⟨a, ns, rfl, hs, q⟩ := h
  obtain ⟨its, rv, hl, _⟩ := I.list hs
  rw [Vals.ref1 r]
  exact sum_raw (I.ok.hd hc) hl.isList rv.ints fun h' tk t' hk => ⟨.int _, H, I.kept hk, ⟨_, rfl⟩, q⟩
def rSorted (K : PySem.W.Frag) : List V → Hp → VK → Prop := fun vs H Q => ∃ (a : Addr) (ns : List Int), vs = [V.ref a] ∧ SqL K H a (ns.map V.int) ∧ ns.length < 64 ∧
  ∀ (ns' : List Int) (p : Addr), ns'.Perm ns → ns'.Pairwise (· ≤ ·) → H p = none → Q (.ref p) (upd H p (.lst (ns'.map V.int)))
def rSortedS (K : PySem.W.Frag) : List V → Hp → VK → Prop := fun vs H Q => ∃ (a : Addr) (xs : List Str), vs = [V.ref a] ∧ SqL K H a (xs.map V.str) ∧ xs.length < 64 ∧
  ∀ (ys : List Str) (p : Addr), ys.Perm xs → sortedS ys = true → H p = none → Q (.ref p) (upd H p (.lst (ys.map V.str)))
theorem small64 {n : Nat} (h : n < 64) : n ≤ sizeLine := by rw [sizeLine_eq]; omega
theorem cr_sorted : CallR X (.builtin "sorted") (rSorted X.K) := by
  intro pins s σ H vs us Q I r h
  obtain ⟨a, ns, rfl, hs, h64, q⟩ := h
  obtain ⟨its, rv, hl, _⟩ := I.list hs
  rw [Vals.ref1 r]
  have hi := rv.ints
  refine PyProof.Rows.sorted_ints hl.isList hi (by rw [hi.length]; exact h64) fun out ns' h1 h2 h3 => ?_
  obtain ⟨ep, he'⟩ := PyProof.Rows.sortedAll_at s.heap its out
  have hlen : (ns'.map V.int).length ≤ sizeLine := by rw [List.length_map, h2.length_eq]; exact small64 h64
  exact ⟨.ref _, upd H (s.heap.objs.size + 1) (.lst (ns'.map V.int)), I.laid (t' := s.toks) (fun _ _ => PyProof.Rows.sortedAll_old) (Nat.le_succ _) ⟨hlen, out.toList, ep, vals_of_ints h1, he'⟩, rfl, q ns' _ h2 h3 (I.hok.fresh (Nat.le_succ _))⟩
theorem cr_sortedS : CallR X (.builtin "sorted") (rSortedS X.K) := by
  intro pins s σ H vs us Q I r h
  obtain ⟨a, xs, rfl, hs, h64, q⟩ := h
  obtain ⟨its, rv, hl, _⟩ := I.list hs
  rw [Vals.ref1 r]
  have hlen0 := rv.length
  rw [List.length_map] at hlen0
  refine PyProof.Rows.sorted_strs hl.isList rv.strs (by rw [← hlen0]; exact h64) fun out ys h1 h2 h3 => ?_
  obtain ⟨ep, he'⟩ := PyProof.Rows.sortedAll_at s.heap its out
  have hlen : (ys.map V.str).length ≤ sizeLine := by rw [List.length_map, h2.length_eq]; exact small64 h64
  exact ⟨.ref _, upd H (s.heap.objs.size + 1) (.lst (ys.map V.str)), I.laid (t' := s.toks) (fun _ _ => PyProof.Rows.sortedAll_old) (Nat.le_succ _) ⟨hlen, out.toList, ep, vals_of_strs h1, he'⟩, rfl, q ys _ h2 h3 (I.hok.fresh (Nat.le_succ _))⟩
end
section
variable {X : Cx}
end
section
variable {X : Cx}
end
section
variable {X : Cx}
end
mutual
inductive Dp (K : PySem.W.Frag) (H : Hp) : V → PyData → Prop
  | non : Dp K H .non .none
  | bl (b : Bool) : Dp K H (.bl b) (.bool b)
  | int (i : Int) : Dp K H (.int i) (.int i)
  | str (x : Str) : Dp K H (.str x) (.str x)
  | lst {a : Addr} {xs : List V} {ds : List PyData} : SqL K H a xs → DpAll K H xs ds → Dp K H (.ref a) (.list ds)
  | tup {a : Addr} {xs : List V} {ds : List PyData} : SqT K H a xs → DpAll K H xs ds → Dp K H (.ref a) (.tuple ds)
inductive DpAll (K : PySem.W.Frag) (H : Hp) : List V → List PyData → Prop
  | nil : DpAll K H [] []
  | cons {v : V} {vs : List V} {d : PyData} {ds : List PyData} : Dp K H v d → DpAll K H vs ds → DpAll K H (v :: vs) (d :: ds)
end
section
variable {X : Cx} {pins : List (Addr × Obj)} {σ : St} {H : Hp} {s : Shared}
mutual
theorem Dp.reads (I : Inv X pins σ H s) : ∀ (d : PyData) (v : V) (u : Value), Dp X.K H v d → RelV v u → ∃ as, Reads s.heap u d as
  | .none, _, _, h, r => by
    cases h
    cases r
    exact ⟨_, Reads.none⟩
  | .bool b, _, _, h, r => by
    cases h
    cases r
    exact ⟨_, Reads.bool b⟩
  | .int i, _, _, h, r => by
    cases h
    obtain ⟨t, rfl⟩ := r
    exact ⟨_, Reads.int i t⟩
  | .str x, _, _, h, r => by
    cases h
    obtain ⟨t, rfl⟩ := r
    exact ⟨_, Reads.str x t⟩
  | .list ds, _, _, h, r => by
    cases h with
    | lst hs ha =>
      cases r
      obtain ⟨its, rv, ⟨o, n, ho, hc, _, hd⟩, _⟩ := I.list hs
      obtain ⟨as, hr⟩ := Dp.readsAll I ds _ its ha rv
      exact ⟨_, Reads.list ho hc hd hr⟩
  | .tuple ds, _, _, h, r => by
    cases h with
    | tup hs ha =>
      cases r
      obtain ⟨its, rv, ⟨o, ho, hc, n, hd⟩, _⟩ := I.tuple hs
      obtain ⟨as, hr⟩ := Dp.readsAll I ds _ its ha rv
      exact ⟨_, Reads.tuple ho hc hd hr⟩
  | .dict _, _, _, h, _ => by cases h
theorem Dp.readsAll (I : Inv X pins σ H s) : ∀ (ds : List PyData) (vs : List V) (us : List Value), DpAll X.K H vs ds → Vals vs us → ∃ as, ReadsAll s.heap us ds as
  | [], _, _, h, r => by
    cases h
    cases r
    exact ⟨_, ReadsAll.nil⟩
  | d :: ds, _, _, h, r => by
    cases h with
    | cons h1 h2 =>
      cases r with
      | cons r1 r2 =>
        obtain ⟨as, q1⟩ := Dp.reads I d _ _ h1 r1
        obtain ⟨bs, q2⟩ := Dp.readsAll I ds _ _ h2 r2
        exact ⟨_, ReadsAll.cons q1 q2⟩
end
end
section
variable {X : Cx}
def rEqD (K : PySem.W.Frag) : R2 := fun x y H Q => ∃ d e, Dp K H x d ∧ Dp K H y e ∧ SeqAt.shaped d = true ∧ SeqAt.shaped e = true ∧ Q (.bl (PyData.eqv d e)) H
def rNeD (K : PySem.W.Frag) : R2 := fun x y H Q => ∃ d e, Dp K H x d ∧ Dp K H y e ∧ SeqAt.shaped d = true ∧ SeqAt.shaped e = true ∧ Q (.bl (!PyData.eqv d e)) H
theorem op_eqD (hu : X.A.units + 64 < cLine) : OpR X (compareOp .Eq) (rEqD X.K) := by
  intro pins s σ H x y v u Q I rx ry h
  obtain ⟨d, e, hd, he, sd, se, q⟩ := h
  obtain ⟨as, r1⟩ := Dp.reads I d x v hd rx
  obtain ⟨bs, r2⟩ := Dp.reads I e y u he ry
  exact SeqAt.compareEq_shaped r1 r2 sd se hu ⟨.bl _, H, I, rfl, q⟩
theorem op_neD (hu : X.A.units + 64 < cLine) : OpR X (compareOp .NotEq) (rNeD X.K) := by
  intro pins s σ H x y v u Q I rx ry h
  obtain ⟨d, e, hd, he, sd, se, q⟩ := h
  obtain ⟨as, r1⟩ := Dp.reads I d x v hd rx
  obtain ⟨bs, r2⟩ := Dp.reads I e y u he ry
  exact SeqAt.compareNe_shaped r1 r2 sd se hu ⟨.bl _, H, I, rfl, q⟩
end
end L2
namespace L2
open PySem PySem.Spec PyProof.Rows
abbrev CellAt (h : Heap) (c : Addr) (v : Option Value) : Prop := h.IsCell c v
def relS (scope sc : Scope) : Scope :=
  { scope with names := scope.names.map fun (n, k) => if (k == .free && sc.kind == .function && sc.names.lookup n == some .cell) then (n, .cell) else (n, k) }
def cloFrom (cells : List (Str × Addr)) : List (Str × NameKind) → List (Str × Addr) → List (Str × Addr)
  | [], acc => acc
  | (n, k) :: r, acc => if k == .free then cloFrom cells r ((n, (cells.lookup n).getD 0) :: acc) else cloFrom cells r acc
theorem closure_loop (env : Env) (f : Str × NameKind → List (Str × Addr) → Sem (ForInStep (List (Str × Addr))))
    (hf : ∀ n k c, f (n, k) c = if k == .free then (do let a ← cellOf env n; pure (.yield ((n, a) :: c))) else pure (.yield c)) :
    ∀ (names : List (Str × NameKind)) (acc : List (Str × Addr)), (∀ y ∈ names, y.2 = .free → ∃ c, env.cells.lookup y.1 = some c) → forIn names acc f = pure (cloFrom env.cells names acc)
  | [], acc, _ => by rw [List.forIn_nil]; rfl
  | (n, k) :: r, acc, h => by
    rw [List.forIn_cons, hf]
    have ih := fun acc => closure_loop env f hf r acc fun y hy => h y (List.mem_cons_of_mem _ hy)
    unfold cloFrom
    by_cases hk : (k == NameKind.free) = true
    · rw [if_pos hk, if_pos hk]
      obtain ⟨c, hc⟩ := h (n, k) List.mem_cons_self (by simpa using hk)
      have e : cellOf env n = pure c := by unfold cellOf; rw [hc]
      rw [e]
      have e2 : (env.cells.lookup n).getD 0 = c := by rw [hc]; rfl
      rw [e2]
      exact ih _
    · rw [if_neg hk, if_neg hk]
      exact ih _
theorem closure_ok {scope : Scope} {env : Env} (h : ∀ y ∈ scope.names, y.2 = .free → ∃ c, env.cells.lookup y.1 = some c) : closureFor scope env = pure (cloFrom env.cells scope.names []) := by
  simp only [closureFor]
  rw [closure_loop env _ (fun n k c => rfl) scope.names [] h]
  rfl
theorem mem_lookup {α : Type} : ∀ {l : List (Str × α)} {n : Str} {c : α}, (n, c) ∈ l → ∃ c', l.lookup n = some c'
  | (k, v) :: r, n, c, h => by
    rw [List.lookup_cons]
    cases hb : n == k with
    | true => exact ⟨_, rfl⟩
    | false =>
      rcases List.mem_cons.mp h with e | h
      · cases e; simp at hb
      · exact mem_lookup h
theorem cloFrom_mem {cells : List (Str × Addr)} : ∀ {names : List (Str × NameKind)} {acc : List (Str × Addr)} {n : Str} {c : Addr}, (n, c) ∈ cloFrom cells names acc → (n, c) ∈ acc ∨ ((n, .free) ∈ names ∧ c = (cells.lookup n).getD 0)
  | [], _, _, _, h => .inl h
  | (m, k) :: r, acc, n, c, h => by
    unfold cloFrom at h
    split at h
    · rename_i hk
      have hk : k = .free := by simpa using hk
      rcases cloFrom_mem h with h | ⟨h1, h2⟩
      · rcases List.mem_cons.mp h with e | h
        · cases e; exact .inr ⟨hk ▸ List.mem_cons_self, rfl⟩
        · exact .inl h
      · exact .inr ⟨List.mem_cons_of_mem _ h1, h2⟩
    · rcases cloFrom_mem h with h | ⟨h1, h2⟩
      · exact .inl h
      · exact .inr ⟨List.mem_cons_of_mem _ h1, h2⟩
theorem cloFrom_acc {cells : List (Str × Addr)} : ∀ {names : List (Str × NameKind)} {acc : List (Str × Addr)} {p : Str × Addr}, p ∈ acc → p ∈ cloFrom cells names acc
  | [], _, _, h => h
  | (m, k) :: r, acc, p, h => by
    unfold cloFrom
    split
    · exact cloFrom_acc (List.mem_cons_of_mem _ h)
    · exact cloFrom_acc h
theorem cloFrom_has {cells : List (Str × Addr)} : ∀ {names : List (Str × NameKind)} {acc : List (Str × Addr)} {n : Str}, (n, .free) ∈ names → (n, (cells.lookup n).getD 0) ∈ cloFrom cells names acc
  | (m, k) :: r, acc, n, h => by
    unfold cloFrom
    rcases List.mem_cons.mp h with e | h
    · cases e
      exact cloFrom_acc List.mem_cons_self
    · split
      · exact cloFrom_has h
      · exact cloFrom_has h
theorem cells_mem : ∀ {names : List (Str × NameKind)} {h : Heap} {acc : List (Str × Addr)} {x : Str} {c : Addr}, (x, c) ∈ cellsFrom h.objs.size names acc →
    (x, c) ∈ acc ∨ ((x, .cell) ∈ names ∧ h.objs.size ≤ c ∧ CellAt (pushCells h names) c none)
  | [], _, _, _, _, h => .inl h
  | (n, k) :: r, h, acc, x, c, hm => by
    unfold cellsFrom at hm
    unfold pushCells
    split at hm
    · rename_i hk
      rw [if_pos hk]
      have hk : k = .cell := by simpa using hk
      rw [← Heap.size_push h { cls := .type "cell", data := .cell none }] at hm
      rcases cells_mem hm with hm | ⟨h1, h2, h3⟩
      · rcases List.mem_cons.mp hm with e | hm
        · cases e
          exact .inr ⟨hk ▸ List.mem_cons_self, Nat.le_refl _, _, pushCells_keeps r _ _ _ (Heap.get?_push_size _ rfl), rfl⟩
        · exact .inl hm
      · rw [Heap.size_push] at h2
        exact .inr ⟨List.mem_cons_of_mem _ h1, Nat.le_of_succ_le h2, h3⟩
    · rename_i hk
      rw [if_neg hk]
      rcases cells_mem hm with hm | ⟨h1, h2, h3⟩
      · exact .inl hm
      · exact .inr ⟨List.mem_cons_of_mem _ h1, h2, h3⟩
theorem cells_acc : ∀ {names : List (Str × NameKind)} {n : Nat} {acc : List (Str × Addr)} {p : Str × Addr}, p ∈ acc → p ∈ cellsFrom n names acc
  | [], _, _, _, h => h
  | (m, k) :: r, n, acc, p, h => by
    unfold cellsFrom
    split
    · exact cells_acc (List.mem_cons_of_mem _ h)
    · exact cells_acc h
theorem cells_has : ∀ {names : List (Str × NameKind)} {n : Nat} {acc : List (Str × Addr)} {x : Str}, (x, .cell) ∈ names → ∃ c, (x, c) ∈ cellsFrom n names acc
  | (m, k) :: r, n, acc, x, h => by
    unfold cellsFrom
    rcases List.mem_cons.mp h with e | h
    · cases e
      exact ⟨n, cells_acc List.mem_cons_self⟩
    · split
      · exact cells_has h
      · exact cells_has h
theorem cells_inj : ∀ {names : List (Str × NameKind)} {h : Heap} {acc : List (Str × Addr)} {x y : Str} {c : Addr}, (∀ p ∈ acc, p.2 < h.objs.size) → (∀ x y c, (x, c) ∈ acc → (y, c) ∈ acc → x = y) →
    (x, c) ∈ cellsFrom h.objs.size names acc → (y, c) ∈ cellsFrom h.objs.size names acc → x = y
  | [], _, _, _, _, _, _, hi, h1, h2 => hi _ _ _ h1 h2
  | (n, k) :: r, h, acc, x, y, c, hl, hi, h1, h2 => by
    unfold cellsFrom at h1 h2
    split at h1
    · rename_i hk
      rw [if_pos hk] at h2
      rw [← Heap.size_push h { cls := .type "cell", data := .cell none }] at h1 h2
      refine cells_inj (h := h.push _) (fun p hp => ?_) (fun x y c a b => ?_) h1 h2
      · rw [Heap.size_push]
        rcases List.mem_cons.mp hp with rfl | hp
        · exact Nat.lt_succ_self _
        · exact Nat.lt_succ_of_lt (hl p hp)
      · rcases List.mem_cons.mp a with e | a <;> rcases List.mem_cons.mp b with e' | b
        · cases e; cases e'; rfl
        · cases e; exact absurd (hl _ b) (Nat.lt_irrefl _)
        · cases e'; exact absurd (hl _ a) (Nat.lt_irrefl _)
        · exact hi _ _ _ a b
    · rename_i hk
      rw [if_neg hk] at h2
      exact cells_inj hl hi h1 h2
theorem newEnv_comp {M : Model} {A : Around} {E : Value → Shared → Prop} {s : Shared} {scope : Scope} {globals : Addr} {closure : List (Str × Addr)} {qual : Str} {func : Option Addr} {code : Value} {around : Env} {builtins : Addr} {Q : Env → Shared → Prop}
    (h : Q (newEnv scope s.heap.objs.size globals (cellsFrom (s.heap.objs.size + 1) scope.names closure) qual func code (some around) builtins)
      { s with heap := pushCells (s.heap.push { cls := .type "dict", data := .dict #[] }) scope.names }) :
    wpAny M A (newFunctionEnv scope globals closure [] qual func code (some around) builtins) Q E s := by
  simp only [newFunctionEnv, Option.isSome_some, if_true]
  refine wpAny_bind (wpAny_alloc ?_)
  refine wpAny_bind (wpAny_layCells _ (fun n k c => rfl) scope.names closure _ _ ?_)
  rw [show ({ s with heap := s.heap.push { cls := .type "dict", data := .dict #[] } } : Shared).heap.objs.size = s.heap.objs.size + 1 from Heap.size_push ..]
  rw [List.forIn_nil]
  exact wpAny_bind (wpAny_pure (wpAny_pure h))
theorem lookup_relS {sc : Scope} : ∀ {names : List (Str × NameKind)} {x : Str} {k : NameKind},
    (names.map fun (n, k) => if (k == NameKind.free && sc.kind == .function && sc.names.lookup n == some .cell) then (n, NameKind.cell) else (n, k)).lookup x = some k →
    ∃ k', names.lookup x = some k' ∧ (k = k' ∨ (k' = .free ∧ k = .cell))
  | [], _, _, h => by simp at h
  | (n, k₀) :: r, x, k, h => by
    have ih := @lookup_relS sc r x k
    have h' : List.lookup x ((if (k₀ == NameKind.free && sc.kind == .function && sc.names.lookup n == some .cell) = true then (n, NameKind.cell) else (n, k₀)) :: (r.map _)) = some k := h
    cases hx : x == n with
    | true =>
      simp only [List.lookup_cons, hx]
      by_cases hc : (k₀ == NameKind.free && sc.kind == .function && sc.names.lookup n == some .cell) = true
      · rw [if_pos hc] at h'
        simp only [List.lookup_cons, hx] at h'
        cases h'
        simp only [Bool.and_eq_true, beq_iff_eq] at hc
        exact ⟨k₀, rfl, .inr ⟨hc.1.1, rfl⟩⟩
      · rw [if_neg hc] at h'
        simp only [List.lookup_cons, hx] at h'
        cases h'
        exact ⟨_, rfl, .inl rfl⟩
    | false =>
      simp only [List.lookup_cons, hx]
      by_cases hc : (k₀ == NameKind.free && sc.kind == .function && sc.names.lookup n == some .cell) = true
      · rw [if_pos hc] at h'
        simp only [List.lookup_cons, hx] at h'
        exact ih h'
      · rw [if_neg hc] at h'
        simp only [List.lookup_cons, hx] at h'
        exact ih h'
structure BlkOk (N : List Str) (sc scope : Scope) (own : List (Str × Nat)) : Prop where
  kind : scope.kind = .function
  uniq : ∀ y ∈ scope.names, scope.names.lookup y.1 = some y.2
  ix : ∀ p ∈ own, N[p.2]? = some p.1
  free : ∀ y ∈ scope.names, y.2 = .free → sc.names.lookup y.1 = some .cell ∨ sc.names.lookup y.1 = some .free
  own : ∀ y ∈ scope.names, y.2 = .local ∨ y.2 = .cell → y.1 ∈ own.map (·.1) ∨ y.1 ∉ N
def wipe (σ : St) : List Nat → St
  | [] => σ
  | v :: vs => (wipe σ vs).set v none
theorem wipe_length (σ : St) : ∀ vs : List Nat, (wipe σ vs).length = σ.length
  | [] => rfl
  | v :: vs => by unfold wipe; rw [List.length_set, wipe_length σ vs]
theorem wipe_some {σ : St} {i : Nat} {x : V} : ∀ {vs : List Nat}, (wipe σ vs)[i]? = some (some x) → σ[i]? = some (some x) ∧ i ∉ vs
  | [], h => ⟨h, by simp⟩
  | v :: vs, h => by
    unfold wipe at h
    by_cases hi : v = i
    · subst hi
      by_cases hv : v < (wipe σ vs).length
      · rw [List.getElem?_set_self hv] at h; cases h
      · rw [List.getElem?_eq_none (by simpa using hv)] at h; cases h
    · rw [List.getElem?_set_ne hi] at h
      obtain ⟨h1, h2⟩ := wipe_some h
      exact ⟨h1, by simp only [List.mem_cons, not_or]; exact ⟨fun e => hi e.symm, h2⟩⟩
abbrev Cx.blk (X : Cx) (s : Shared) (H : Hp) (scope : Scope) (cenv : Env) (fp : List Addr) : Cx := { X with s_0 := s, H_0 := H, env := cenv, outer := X.stack, ex := fp, fn := fun x => scope.names.lookup x == some .cell, pn := [], xe := fun _ _ => False }
section
variable {X : Cx} {pins : List (Addr × Obj)} {σ : St} {H : Hp} {s : Shared}
theorem block_start {scope : Scope} {own : List (Str × Nat)} {fp : List Addr} (I : Inv X pins σ H s) (ok : BlkOk X.N X.env.scope scope own) (hN : X.N.Nodup) (hfp : ∀ b ∈ fp, FpOk X pins H b ∧ b < s.heap.objs.size) :
    Inv (X.blk s H scope (compEnvC scope (cellsFrom (s.heap.objs.size + 1) scope.names (cloFrom X.env.cells scope.names [])) s.heap.objs.size X.env) fp) [] (wipe σ (own.map (·.2))) H { s with heap := pushCells (s.heap.push { cls := .type "dict", data := .dict #[] }) scope.names } := by
  have hfree : ∀ y ∈ scope.names, y.2 = .free → ∃ c, X.env.cells.lookup y.1 = some c := fun y hy e => by
    rcases ok.free y hy e with k | k
    · exact I.ok.has _ (.inl k)
    · exact I.ok.has _ (.inr k)
  generalize hcenv : compEnvC scope (cellsFrom (s.heap.objs.size + 1) scope.names (cloFrom X.env.cells scope.names [])) s.heap.objs.size X.env = cenv
  have kp : ∀ b o, s.heap.get? b = some o → (pushCells (s.heap.push { cls := .type "dict", data := .dict #[] }) scope.names).get? b = some o := fun b o e => pushCells_keeps _ _ _ _ (Heap.get?_push_of_some _ e)
  have hL : cenv.locals = s.heap.objs.size := by rw [← hcenv]; rfl
  have hcl : cenv.cells = cellsFrom (s.heap.objs.size + 1) scope.names (cloFrom X.env.cells scope.names []) := by rw [← hcenv]; rfl
  have hsc : cenv.scope = relS scope X.env.scope := by rw [← hcenv]; rfl
  rw [← Heap.size_push s.heap { cls := .type "dict", data := .dict #[] }] at hcl
  have cm : ∀ {y c}, (y, c) ∈ cloFrom X.env.cells scope.names [] → X.env.cells.lookup y = some c ∧ c < s.heap.objs.size := fun {y c} hm => by
    rcases cloFrom_mem hm with hm | ⟨h1, rfl⟩
    · cases hm
    · obtain ⟨c, hc⟩ := hfree _ h1 rfl
      rw [hc]
      obtain ⟨w, z⟩ := I.cell _ _ hc
      exact ⟨rfl, z.lt⟩
  have mem : ∀ {y c}, cenv.cells.lookup y = some c → (X.env.cells.lookup y = some c ∧ c < s.heap.objs.size) ∨ (s.heap.objs.size + 1 ≤ c ∧ CellAt (pushCells (s.heap.push { cls := .type "dict", data := .dict #[] }) scope.names) c none) := fun {y c} e => by
    rw [hcl] at e
    rcases cells_mem (PySem.mem_of_lookup e) with hm | ⟨_, h2, h3⟩
    · exact .inl (cm hm)
    · rw [Heap.size_push] at h2; exact .inr ⟨h2, h3⟩
  have look : ∀ {y}, scope.names.lookup y = some .free → ∃ c, cenv.cells.lookup y = some c ∧ X.env.cells.lookup y = some c := fun {y} hl => by
    have hy : (y, NameKind.free) ∈ scope.names := PySem.mem_of_lookup hl
    obtain ⟨c', e'⟩ := mem_lookup (cells_acc (names := scope.names) (n := (s.heap.push { cls := .type "dict", data := .dict #[] }).objs.size) (cloFrom_has (cells := X.env.cells) (acc := []) hy))
    rw [← hcl] at e'
    refine ⟨c', e', ?_⟩
    rw [hcl] at e'
    rcases cells_mem (PySem.mem_of_lookup e') with hm | ⟨h1, _, _⟩
    · exact (cm hm).1
    · have := ok.uniq _ h1
      rw [hl] at this; cases this
  have okB : (X.blk s H scope cenv fp).Ok := by
    refine ⟨I.ok.mod, by show cenv.scope.kind = _; rw [hsc]; exact ok.kind, by show cenv.globals = _; rw [← hcenv]; exact I.ok.glob, by show cenv.builtins = _; rw [← hcenv]; exact I.ok.blt, by show s.heap.objs.size ≤ cenv.locals; rw [hL]; exact Nat.le_refl _,
      fun y z c e1 e2 => ?_, fun y hy => ?_, fun y c z e => ?_, I.ok.hd, I.ok.frames, .inl rfl, fun b hb => ⟨?_, fun y c e z => ?_⟩, I.bs, Nat.le_trans I.ok.bsz I.sz, fun b o e hb => ?_, fun b hb z => ?_, I.stack, I.stkFree⟩
    · have e1 : cenv.cells.lookup y = some c := e1
      have e2 : cenv.cells.lookup z = some c := e2
      rw [hcl] at e1 e2
      refine cells_inj (fun p hp => ?_) (fun y z c a b => I.ok.inj y z c (cm a).1 (cm b).1) (PySem.mem_of_lookup e1) (PySem.mem_of_lookup e2)
      rw [Heap.size_push]
      exact Nat.lt_succ_of_lt (cm (y := p.1) (c := p.2) hp).2
    · show ∃ c, cenv.cells.lookup y = some c
      have key : ∀ k, cenv.kindOf y = some k → (k = .cell ∨ k = .free) → ∃ c, cenv.cells.lookup y = some c := fun k hk hk' => by
        unfold Env.kindOf at hk
        rw [hsc] at hk
        obtain ⟨k', e, r⟩ := lookup_relS hk
        have : k' = .cell ∨ k' = .free := by
          rcases r with rfl | ⟨rfl, _⟩
          · exact hk'
          · exact .inr rfl
        rcases this with rfl | rfl
        · obtain ⟨c, hm⟩ := cells_has (n := (s.heap.push { cls := .type "dict", data := .dict #[] }).objs.size) (acc := cloFrom X.env.cells scope.names []) (PySem.mem_of_lookup e)
          obtain ⟨c', e'⟩ := mem_lookup hm
          exact ⟨c', by rw [hcl]; exact e'⟩
        · obtain ⟨c, h1, _⟩ := look e
          exact ⟨c, h1⟩
      rcases hy with hy | hy
      · exact key _ hy (.inl rfl)
      · exact key _ hy (.inr rfl)
    · have z : (scope.names.lookup y == some NameKind.cell) = true := z
      have z : scope.names.lookup y = some .cell := by simpa using z
      have e : cenv.cells.lookup y = some c := e
      rw [hcl] at e
      rcases cells_mem (PySem.mem_of_lookup e) with hm | ⟨_, h2, _⟩
      · rcases cloFrom_mem hm with hm | ⟨h1, _⟩
        · cases hm
        · have q := ok.uniq _ h1
          rw [z] at q; cases q
      · rw [Heap.size_push] at h2
        exact Nat.le_of_succ_le h2
    · show b ≠ cenv.locals
      rw [hL]; exact Nat.ne_of_lt (hfp b hb).2
    · have e : cenv.cells.lookup y = some c := e
      rcases mem e with ⟨h1, _⟩ | ⟨h1, _⟩
      · exact (hfp b hb).1.2.2.2.2.1 y c h1 z
      · have h2 : s.heap.objs.size + 1 ≤ b := by rw [← z]; exact h1
        exact absurd (Nat.lt_of_lt_of_le (hfp b hb).2 (Nat.le_of_succ_le h2)) (Nat.lt_irrefl _)
    · rcases (hfp b hb).1.2.2.2.1 with z | z
      · exact I.ok.noex b o e z
      · exact absurd (Nat.lt_of_lt_of_le (Heap.lt_size e) (Nat.le_trans I.ok.bsz z)) (Nat.lt_irrefl _)
    · rcases List.mem_cons.mp (I.stkSub b z) with z | z
      · exact (hfp b hb).1.2.1 z
      · exact (hfp b hb).1.2.2.1 z
  refine ⟨okB, rfl, I.bare, Un.kept kp, ⟨fun _ => none, ?_, fun i y av e1 e2 e3 => ?_⟩, fun y c e => ?_, ?_, fun y c e => ?_, fun p hp => ?_, I.hok.kept kp, by rw [wipe_length]; exact I.len⟩
  · show Heap.Ns _ cenv.locals _
    rw [hL]
    exact Heap.Ns.keeps (Heap.Ns.new ..) fun b o e => pushCells_keeps _ _ _ _ e
  · obtain ⟨e2, hne⟩ := wipe_some e2
    have hfr : scope.names.lookup y = some .free ∧ (cenv.kindOf y = some .cell ∨ cenv.kindOf y = some .free) := by
      have key : ∀ k, cenv.scope.names.lookup y = some k → k = .local ∨ k = .cell ∨ k = .free → scope.names.lookup y = some .free ∧ (cenv.kindOf y = some .cell ∨ cenv.kindOf y = some .free) := fun k hk hk' => by
        have hk0 := hk
        rw [hsc] at hk
        obtain ⟨k', e, r⟩ := lookup_relS hk
        have no : ¬ (k' = .local ∨ k' = .cell) := fun hh => by
          rcases ok.own _ (PySem.mem_of_lookup e) hh with e' | e'
          · obtain ⟨p, hp, hpy⟩ := List.mem_map.mp e'
            have e3 := ok.ix p hp
            have : p.1 = y := hpy
            rw [this] at e3
            exact hne (List.mem_map.mpr ⟨p, hp, nodup_ix hN e3 e1⟩)
          · exact e' (List.mem_of_getElem? e1)
        rcases r with rfl | ⟨rfl, rfl⟩
        · rcases hk' with rfl | rfl | rfl
          · exact absurd (.inl rfl) no
          · exact absurd (.inr rfl) no
          · exact ⟨e, .inr hk0⟩
        · exact ⟨e, .inl hk0⟩
      have e3 : Vis cenv.scope y := e3
      rcases e3 with e3 | e3 | e3
      · exact key _ e3 (.inl rfl)
      · exact key _ e3 (.inr (.inl rfl))
      · exact key _ e3 (.inr (.inr rfl))
    obtain ⟨m, hn, hl⟩ := I.loc
    have hvis : Vis X.env.scope y := (ok.free _ (PySem.mem_of_lookup hfr.1) rfl).elim (fun k => .inr (.inl k)) (fun k => .inr (.inr k))
    obtain ⟨w, r, q⟩ := hl i y av e1 e2 hvis
    refine ⟨w, r, .inr ⟨hfr.2, ?_⟩⟩
    obtain ⟨c, h1, h2⟩ := look hfr.1
    rcases q with ⟨k, _⟩ | ⟨_, c', e', z⟩
    · have k : X.env.scope.names.lookup y = some .local := k
      rcases ok.free _ (PySem.mem_of_lookup hfr.1) rfl with k' | k' <;> rw [show X.env.scope.names.lookup y = _ from k'] at k <;> cases k
    · rw [h2] at e'; cases e'
      exact ⟨c, h1, z.keeps kp⟩
  · have e : cenv.cells.lookup y = some c := e
    rcases mem e with ⟨h1, _⟩ | ⟨_, z⟩
    · obtain ⟨w, z⟩ := I.cell y c h1
      exact ⟨w, z.keeps kp⟩
    · exact ⟨_, z⟩
  · show H cenv.locals = none
    rw [hL]; exact I.hok.fresh (Nat.le_refl _)
  · have e : cenv.cells.lookup y = some c := e
    rcases mem e with ⟨h1, _⟩ | ⟨h1, _⟩
    · exact I.freeC y c h1
    · exact I.hok.fresh (Nat.le_of_succ_le h1)
  · exact absurd (show p ∈ ([] : List (Addr × Obj)) ++ [] from hp) (by simp)
theorem app_ok {E : Value → Shared → Prop} {D : Addr} {xs : List V} {y : V} {v : Value} {Q : Value → Shared → Prop} (I : Inv X pins σ H s) (hD : H D = some (.lst xs)) (hz : xs.length < sizeLine) (r : RelV y v)
    (h : ∀ s', Inv X pins σ (upd H D (.lst (xs ++ [y]))) s' → Q .none s') : wpAny (model X.prog X.w) X.A (call (.builtin "list.append") [.ref D, v]) Q E s := by
  obtain ⟨hz', its, n, ri, e⟩ := I.hok D _ hD
  have hl := ri.length
  refine append_at (hsz := by rw [List.size_toArray]; omega) e fun h' sb ho' => ?_
  refine h { s with heap := h' } (I.write (t' := s.toks) (by rw [hD]; trivial) (.inl rfl) (fun b u hb q => (sb.2 b hb).trans q) ⟨_, ho'⟩ ⟨by rw [List.length_append]; exact hz, its ++ [v], n + 1, ri.append (.cons r .nil), ?_⟩)
  rw [ho']
  simp
def PTs (X : Cx) (ifs : List Expr) (t : TT) : Prop :=
  ∀ (pins : List (Addr × Obj)) (s : Shared) (σ : St) (H : Hp) (Q : Bool → Hp → Prop), Inv X pins σ H s → t σ H Q →
    wpAny (model X.prog X.w) X.A (forIn ifs true fun c r => if r = true then do let ok ← isTrue c X.env (eval c X.env); pure (ForInStep.yield ok) else pure (ForInStep.yield r)) (TP X pins σ Q) X.xe s
def tYes : TT := fun _ H Q => Q true H
theorem pts_nil : PTs X [] tYes := fun _ _ _ H _ I h => wpAny_tests_nil ⟨H, I, h⟩
theorem pts_one {c : Expr} {t : TT} (h : PT X c t) : PTs X [c] t := fun pins s σ H Q I hw => wpAny_tests_one (h pins s σ H Q I hw)
end
theorem thnF {α : Type} {t : Sem α} {Q Q' : α → Shared → Prop} {M : Model} {A : Around} {E : Value → Shared → Prop} {s : Shared} (h : wpAny M A t Q (fun _ _ => False) s) (hQ : ∀ a s, Q a s → Q' a s) : wpAny M A t Q' E s := wpAny_mono h hQ fun _ _ z => False.elim z
theorem compLoop_any {prog : Program} {w : World} {A : Around} {R : Result → Shared → Prop} {s : Shared} {elt target iter : Expr} {ifs : List Expr} {scope : Scope} {pos : Pos} {it acc : Value} {env : Env} (I : Nat → Shared → Prop)
    (turn : ∀ n s, I n s → wpAny (model prog w) A (pyNext it) (fun r s₁ => match r with
      | none => R (.ok .next) s₁
      | some v => wpAny (model prog w) A (letOwnedTupleGo target it v) (fun _ s₁' => wpAny (model prog w) A (assign target env v) (fun _ s₂ =>
          wpAny (model prog w) A (forIn ifs true fun c r => if r = true then do let ok ← isTrue c env (eval c env); pure (ForInStep.yield ok) else pure (ForInStep.yield r)) (fun ok s₃ =>
            if ok = true then wpAny (model prog w) A (eval elt env) (fun x s₄ =>
              wpAny (model prog w) A (call (.builtin "list.append") [acc, x]) (fun _ s₅ => ∃ m, m < n ∧ I m s₅) (notedBy (model prog w) A env fun e s' => R (.error e) s') s₄) (notedBy (model prog w) A env fun e s' => R (.error e) s') s₃
            else ∃ m, m < n ∧ I m s₃) (notedBy (model prog w) A env fun e s' => R (.error e) s') s₂) (notedBy (model prog w) A env fun e s' => R (.error e) s') s₁') (notedBy (model prog w) A env fun e s' => R (.error e) s') s₁) (notedBy (model prog w) A env fun e s' => R (.error e) s') s)
    (n : Nat) (h : I n s) :
    codeAny (model prog w) A (.compLoop (.ListComp elt [⟨target, iter, ifs, 0⟩] scope pos) 0 it acc env) R s := by
  refine codeAny_loop rfl I (fun n s hI => ?_) n h
  show wpAny _ A ((compTurn (.ListComp elt [⟨target, iter, ifs, 0⟩] scope pos) 0 it acc env).onRaise (fun x => do noteFrame x env; theTreesLotGoes x)) _ _ s
  refine wpAny_noted ?_
  rw [compTurn_list]
  refine wpAny_bind (wpAny_standAt (wpAny_bind (wpAny_mono (turn n s hI) (fun r s₁ h₁ => ?_) fun _ _ h' => h')))
  cases r with
  | none => exact wpAny_pure h₁
  | some v =>
    refine wpAny_bind (wpAny_mono h₁ (fun _ s₁' h₁' => ?_) fun _ _ h' => h')
    refine wpAny_bind (wpAny_mono h₁' (fun _ s₂ h₂ => wpAny_bind (wpAny_mono h₂ (fun ok s₃ h₃ => ?_) fun _ _ h' => h')) fun _ _ h' => h')
    cases ok with
    | false => exact wpAny_pure ⟨rfl, h₃⟩
    | true =>
      exact wpAny_bind (wpAny_bind (wpAny_mono h₃ (fun x s₄ h₄ => wpAny_bind (wpAny_mono h₄ (fun _ s₅ h₅ => wpAny_pure (wpAny_pure ⟨rfl, h₅⟩)) fun _ _ h' => h')) fun _ _ h' => h'))
section
variable {X : Cx}
def tLc (wi : TI) (g : TG) (tt : TT) (te : TE) (vs : List Nat) : TE := fun σ H Q => wi σ H fun J H1 => ∀ D, H1 D = none → ∃ W : Nat → Nat → Hp → Prop, (∃ m, W 0 m (upd H1 D (.lst []))) ∧ ∀ i m H, W i m H →
  (J.stop i H ∧ Q (.ref D) H) ∨ (J.go i H ∧ ∃ Nx : Hp → Prop, (∀ H', Nx H' → ∃ m', m' < m ∧ W (i + 1) m' H') ∧ ∀ x H', J.yld i H x H' → g x (wipe σ vs) H' fun σ2 H2 => wipe σ2 vs = wipe σ vs ∧ tt σ2 H2 fun b H3 =>
    if b = true then te σ2 H3 fun y H4 => ∃ acc, H4 D = some (.lst acc) ∧ acc.length < sizeLine ∧ Nx (upd H4 D (.lst (acc ++ [y]))) else Nx H3)
theorem lc_core {pins : List (Addr × Obj)} {s : Shared} {σ : St} {H : Hp} {Q : VK} {elt tg iter : Expr} {ifs : List Expr} {scope : Scope} {own : List (Str × Nat)} {pos pos' : Pos} {wi : TI} {g : TG} {tt : TT} {te : TE} {use : Option (Value → Sem Unit)} {Qf : Value → Shared → Prop}
    (hc : X.calm = true) (hN : X.N.Nodup) (I : Inv X pins σ H s) (hi : PI X tg iter wi) (ok : BlkOk X.N X.env.scope scope own)
    (hg : ∀ (s : Shared) (H : Hp) (C : Addr) (cl : List (Str × Addr)) (fp : List Addr), PG (X.blk s H scope (compEnvC scope cl C X.env) fp) tg g) (ht : ∀ (s : Shared) (H : Hp) (C : Addr) (cl : List (Str × Addr)) (fp : List Addr), PTs (X.blk s H scope (compEnvC scope cl C X.env) fp) ifs tt)
    (he : ∀ (s : Shared) (H : Hp) (C : Addr) (cl : List (Str × Addr)) (fp : List Addr), PE (X.blk s H scope (compEnvC scope cl C X.env) fp) elt te) (hs : ∀ x, foldedSetIterable iter X.env x = pure x)
    (h : tLc wi g tt te (own.map (·.2)) σ H Q)
    (hRR : ∀ D C s' m H', Inv X pins σ H' s' → Q (.ref D) H' → s'.heap.Ns C m → FpOk X pins H' C → compPost (model X.prog X.w) X.A X.xe use Qf (.ref D) C (.ok .next) s') :
    wpAny (model X.prog X.w) X.A (comprehension (.ListComp elt [⟨tg, iter, ifs, 0⟩] scope pos) scope X.env pos' (newList []) false (eval iter X.env) use) Qf X.xe s := by
  have hfree : ∀ y ∈ scope.names, y.2 = .free → ∃ c, X.env.cells.lookup y.1 = some c := fun y hy e => by
    rcases ok.free y hy e with k | k
    · exact I.ok.has _ (.inl k)
    · exact I.ok.has _ (.inr k)
  refine wpAny_comprehension_free (use := use) rfl hs (closure_ok hfree) ok.kind (fun y hy e => by rw [ok.uniq y hy, e])
    (thn (hi pins s σ H _ I h) fun xv s1 hx => thn hx fun itv s2 h2 => ?_)
  obtain ⟨it, fp, tn, J, H2, e, I2, T, st2, f2, q⟩ := h2
  subst e
  refine wpAny_newObj_type (newEnv_comp ?_) (by show 0 ≤ sizeLine; decide)
  generalize hD : s2.heap.objs.size = D
  have hDn : H2 D = none := I2.hok.fresh (Nat.le_of_eq hD)
  obtain ⟨W, ⟨m0, w0⟩, turn⟩ := q D hDn
  -- the new list
  generalize hs3 : ({ s2 with heap := s2.heap.push { cls := .type "list", data := .seq ([] : List Value).toArray } } : Shared) = s3
  have I3 : Inv X pins σ (upd H2 D (.lst [])) s3 := by
    rw [← hs3]
    refine I2.laid (t' := s2.toks) (fun b o e => Heap.get?_push_of_some _ e) (Nat.le_of_eq hD) ⟨Nat.zero_le _, [], 0, .nil, ?_⟩
    rw [← hD]
    exact Heap.get?_push_size _ rfl
  have h3 : s3.heap = s2.heap.push { cls := .type "list", data := .seq ([] : List Value).toArray } := by rw [← hs3]
  have sz : ∀ b ∈ fp, b < s2.heap.objs.size := fun b hb => by
    obtain ⟨o, e, _⟩ := T.obj _ _ st2 b hb
    exact Heap.lt_size e
  have f3 : ∀ b ∈ fp, FpOk X pins (upd H2 D (.lst [])) b ∧ b < s3.heap.objs.size := fun b hb => by
    have hlt := sz b hb
    refine ⟨⟨?_, (f2 b hb).2⟩, by rw [h3, Heap.size_push]; exact Nat.lt_succ_of_lt hlt⟩
    rw [upd_ne (by rw [← hD]; exact Nat.ne_of_lt hlt)]
    exact (f2 b hb).1
  have st3 : tn 0 s3.heap := T.keep _ _ _ st2 fun b _ o e => by rw [h3]; exact Heap.get?_push_of_some _ e
  have I4 := block_start I3 ok hN f3
  have pg := hg s3 (upd H2 D (.lst [])) s3.heap.objs.size (cellsFrom (s3.heap.objs.size + 1) scope.names (cloFrom X.env.cells scope.names [])) fp
  have pt := ht s3 (upd H2 D (.lst [])) s3.heap.objs.size (cellsFrom (s3.heap.objs.size + 1) scope.names (cloFrom X.env.cells scope.names [])) fp
  have pe := he s3 (upd H2 D (.lst [])) s3.heap.objs.size (cellsFrom (s3.heap.objs.size + 1) scope.names (cloFrom X.env.cells scope.names [])) fp
  show codeAny _ _ (.compStart (.ListComp elt [⟨tg, iter, ifs, 0⟩] scope pos) 0 (.ref it) (.ref D) (compEnvC scope (cellsFrom (s3.heap.objs.size + 1) scope.names (cloFrom X.env.cells scope.names [])) s3.heap.objs.size X.env)) (compPost (model X.prog X.w) X.A X.xe use Qf (.ref D) s3.heap.objs.size) { s3 with heap := pushCells (s3.heap.push { cls := .type "dict", data := .dict #[] }) scope.names }
  have nfp : ∀ b ∈ fp, (upd H2 D (.lst [])) b = none := fun b hb => (f3 b hb).1.1
  generalize hce : compEnvC scope (cellsFrom (s3.heap.objs.size + 1) scope.names (cloFrom X.env.cells scope.names [])) s3.heap.objs.size X.env = ce at I4 pg pt pe ⊢
  have cL : ce.locals = s3.heap.objs.size := by subst hce; rfl
  generalize hH3 : upd H2 D (.lst []) = H3 at I3 I4 pg pt pe w0 nfp f3
  generalize hs4 : ({ s3 with heap := pushCells (s3.heap.push { cls := .type "dict", data := .dict #[] }) scope.names } : Shared) = s4 at I4 ⊢
  have st4 : tn 0 s4.heap := T.keep _ _ _ st3 fun b _ o e => by rw [← hs4]; exact pushCells_keeps _ _ _ _ (Heap.get?_push_of_some _ e)
  have stat : ∀ {σ' : St} {H' : Hp} {s' : Shared}, Inv (X.blk s3 H3 scope ce fp) [] σ' H' s' → (∀ b ∈ fp, H' b = none) → ∀ b ∈ fp, FpOk (X.blk s3 H3 scope ce fp) [] H' b := fun {σ' H' s'} I' hn b hb =>
    ⟨hn b hb, (I'.ok.exf b hb).1, I'.ok.exfs b hb, .inl hb, fun x c e => (I'.ok.exf b hb).2 x c e, fun p hp => absurd (show p ∈ ([] : List (Addr × Obj)) ++ [] from hp) (by simp)⟩
  have loop : codeAny (model X.prog X.w) X.A (.compLoop (.ListComp elt [⟨tg, iter, ifs, 0⟩] scope pos) 0 (.ref it) (.ref D) ce) (compPost (model X.prog X.w) X.A X.xe use Qf (.ref D) s3.heap.objs.size) s4 := by
    refine compLoop_any (fun n s' => ∃ i H', Inv (X.blk s3 H3 scope ce fp) [] (wipe σ (own.map (·.2))) H' s' ∧ tn i s'.heap ∧ (∀ b ∈ fp, H' b = none) ∧ W i n H') ?_ m0 ⟨0, H3, I4, st4, nfp, w0⟩
    rintro n s5 ⟨i, H5, I5, st5, n5, w5⟩
    rcases turn i n H5 w5 with ⟨stop, qq⟩ | ⟨go, Nx, hNx, step⟩
    · have td := T.done (X.blk s3 H3 scope ce fp) rfl rfl rfl hc i [] s5 _ H5 (fun _ _ => False) I5 (stat I5 n5) st5 stop
      refine thnF td fun r s6 ⟨hr, I6⟩ => ?_
      subst hr
      -- back in the def's context
      have I7 : Inv X pins σ H5 s6 := I3.call' (ch := fp) I6.os I6.base I6.hok I6.bare fun b hb => ⟨(f3 b hb).1.2.2.2.1, (f3 b hb).1.2.1, (f3 b hb).1.2.2.2.2.1, (f3 b hb).1.2.2.2.2.2⟩
      have nC : H5 s3.heap.objs.size = none := by
        have z : H5 ce.locals = none := I6.free
        rw [cL] at z
        exact z
      obtain ⟨m, hn, _⟩ := I6.loc
      have hn : s6.heap.Ns ce.locals m := hn
      rw [cL] at hn
      exact hRR D s3.heap.objs.size s6 m H5 I7 qq hn (I3.fpOk (Nat.le_refl _) nC)
    · have ti := T.item (X.blk s3 H3 scope ce fp) rfl rfl rfl hc i [] s5 _ H5 (fun _ _ => False) I5 (stat I5 n5) st5 go
      refine thnF ti fun r s6 ⟨u, hr, h6⟩ => ?_
      subst hr
      refine thnF h6 fun _ s7 ⟨x, H7, I7, r7, y7, st7, n7⟩ => ?_
      have I7' := I7.pinned (stat I7 n7) (T.obj _ _ st7)
      refine thnF (pg _ s7 _ H7 x u _ I7' r7 (step x H7 y7)) fun _ s8 ⟨σ8, H8, I8, hw8, q8⟩ => ?_
      refine thnF (pt _ s8 σ8 H8 _ I8 q8) fun b s9 ⟨H9, I9, q9⟩ => ?_
      -- the turn's end
      have fin : ∀ {s' : Shared} {H' : Hp}, Inv (X.blk s3 H3 scope ce fp) ([] ++ pinsAt fp s7.heap) σ8 H' s' → Nx H' → ∃ m, m < n ∧ ∃ i H', Inv (X.blk s3 H3 scope ce fp) [] (wipe σ (own.map (·.2))) H' s' ∧ tn i s'.heap ∧ (∀ b ∈ fp, H' b = none) ∧ W i m H' := fun {s' H'} I' nx => by
        obtain ⟨m', hm, w'⟩ := hNx H' nx
        have pin' : ∀ b ∈ fp, ∀ o, s7.heap.get? b = some o → s'.heap.get? b = some o ∧ H' b = none := fun b hb o e =>
          let z := I'.pin (b, o) (List.mem_append_right _ (List.mem_append_right _ (mem_pinsAt hb e)))
          ⟨z.1, z.2.1⟩
        have hl : (wipe σ (own.map (·.2))).length = σ8.length := by rw [← hw8, wipe_length]
        refine ⟨m', hm, i + 1, H', (I'.unpinned (pins := [])).weak hl (fun j v e => ?_), T.keep _ _ _ st7 fun b hb o e => (pin' b hb o e).1, fun b hb => ?_, w'⟩
        · rw [← hw8] at e
          exact (wipe_some e).1
        · obtain ⟨o, e, _⟩ := T.obj _ _ st7 b hb
          exact (pin' b hb o e).2
      cases b with
      | false =>
        simp only [Bool.false_eq_true, if_false] at q9 ⊢
        exact fin I9 q9
      | true =>
        simp only [if_true] at q9 ⊢
        refine thnF (pe _ s9 σ8 H9 _ I9 q9) fun z s10 ⟨yv, H10, I10, r10, acc, hD10, hz10, nx⟩ => ?_
        exact app_ok (X := X.blk s3 H3 scope ce fp) I10 hD10 hz10 r10 fun s11 I11 => fin I11 nx
  exact codeAny_compStart_list loop (T.self X.A 0 _ _ _ st4 loop)
theorem pe_lc {elt tg iter : Expr} {ifs : List Expr} {scope : Scope} {own : List (Str × Nat)} {pos : Pos} {wi : TI} {g : TG} {tt : TT} {te : TE} (hc : X.calm = true) (hN : X.N.Nodup) (hi : PI X tg iter wi) (ok : BlkOk X.N X.env.scope scope own)
    (hg : ∀ (s : Shared) (H : Hp) (C : Addr) (cl : List (Str × Addr)) (fp : List Addr), PG (X.blk s H scope (compEnvC scope cl C X.env) fp) tg g) (ht : ∀ (s : Shared) (H : Hp) (C : Addr) (cl : List (Str × Addr)) (fp : List Addr), PTs (X.blk s H scope (compEnvC scope cl C X.env) fp) ifs tt)
    (he : ∀ (s : Shared) (H : Hp) (C : Addr) (cl : List (Str × Addr)) (fp : List Addr), PE (X.blk s H scope (compEnvC scope cl C X.env) fp) elt te) (hs : ∀ x, foldedSetIterable iter X.env x = pure x := by intro _; rfl) :
    PE X (.ListComp elt [⟨tg, iter, ifs, 0⟩] scope pos) (tLc wi g tt te (own.map (·.2))) := by
  intro pins s σ H Q I h
  rw [eval_ListComp]
  refine lc_core hc hN I hi ok hg ht he hs h fun D C s' m H' I' q hn f => ⟨m, hn, fun h'' sb => ?_⟩
  obtain ⟨f0, f1, f2, f3, f4, f5⟩ := f
  exact ⟨.ref D, H', I'.turned (t' := s'.toks) (fun b o hb e => (sb.2 b hb).trans e) f0 f1 f3 f4 f5, rfl, q⟩
theorem ps_setLc {i : Nat} {y : Str} {py : Pos} {elt tg iter : Expr} {ifs : List Expr} {scope : Scope} {own : List (Str × Nat)} {pos spos : Pos} {wi : TI} {g : TG} {tt : TT} {te : TE} (hc : X.calm = true) (hN : X.N.Nodup) (hy : X.N[i]? = some y) (hyl : X.env.scope.names.lookup y = some .local)
    (hsw : swapsWith (.ListComp elt [⟨tg, iter, ifs, 0⟩] scope pos) (some (.Name y py)) spos.line X.env = pure true) (hi : PI X tg iter wi) (ok : BlkOk X.N X.env.scope scope own)
    (hg : ∀ (s : Shared) (H : Hp) (C : Addr) (cl : List (Str × Addr)) (fp : List Addr), PG (X.blk s H scope (compEnvC scope cl C X.env) fp) tg g) (ht : ∀ (s : Shared) (H : Hp) (C : Addr) (cl : List (Str × Addr)) (fp : List Addr), PTs (X.blk s H scope (compEnvC scope cl C X.env) fp) ifs tt)
    (he : ∀ (s : Shared) (H : Hp) (C : Addr) (cl : List (Str × Addr)) (fp : List Addr), PE (X.blk s H scope (compEnvC scope cl C X.env) fp) elt te) (hs : ∀ x, foldedSetIterable iter X.env x = pure x := by intro _; rfl) :
    PS X (.Assign [.Name y py] (.ListComp elt [⟨tg, iter, ifs, 0⟩] scope pos) spos) (tAsg (tLc wi g tt te (own.map (·.2))) (gName i)) := by
  intro pins s σ H D I h
  rw [exec_Assign_Name_used _ _ _ _ hsw]
  refine wpAny_bind (wpAny_standAt (wpAny_bind ?_))
  show wpAny _ X.A (do let _ ← comprehension (.ListComp elt [⟨tg, iter, ifs, 0⟩] scope pos) scope X.env (firstIterPos [⟨tg, iter, ifs, 0⟩] pos) (newList []) false (eval iter X.env) (some (assign (.Name y py) X.env))) _ _ s
  have h : tLc wi g tt te (own.map (·.2)) σ H (fun x H1 => gName i x σ H1 D.nx) := h
  refine wpAny_bind (thn (lc_core (Qf := fun _ s' => SP X pins D .next s') hc hN I hi ok hg ht he hs h fun L C s' m H' I' q hn f => ?_) fun _ s' hq => wpAny_pure (wpAny_pure hq))
  show wpAny _ _ (assign (.Name y py) X.env (.ref L)) _ _ _
  refine wpAny_assign_Name (store_ok2 (v := V.ref L) I' hN hy (.inl hyl) rfl (fun s2 I2 ⟨a, sb, ha⟩ => ?_) (.inr hyl))
  obtain ⟨f0, f1, f2, f3, f4, f5⟩ := f
  have haC : C ≠ a := by
    rcases ha with z | z
    · rw [z]; exact f1
    · exact fun e => f4 y a z e.symm
  refine ⟨m, hn.sameBut sb haC, fun h3 sb3 => ?_⟩
  exact ⟨_, H', I2.turned (t' := s2.toks) (fun b o hb e => (sb3.2 b hb).trans e) f0 f1 f3 f4 f5, q⟩
theorem sw_true {elt : Expr} {gs : List Comprehension} {scope : Scope} {pos py : Pos} {y : Str} {l : Nat} {env : Env} (hk : env.scope.kind = .function) (hy : env.scope.names.lookup y = some .local) (hl : (py.line == pos.line) = true)
    (ha : (scope.names.any fun (n, k) => n == y && (k == .local || k == .cell)) = false) : swapsWith (.ListComp elt gs scope pos) (some (.Name y py)) l env = pure true := by
  have ky : env.kindOf y = some .local := hy
  have hb : env.blockKind = .function := by unfold Env.blockKind; rw [hk]; rfl
  unfold swapsWith
  simp only [hb, ky, ha, Expr.pos, hl]
  rfl
end
def blkC (N : List Str) (sc scope : Scope) (own : List (Str × Nat)) : Bool :=
  (match scope.kind with | .function => true | _ => false) && (scope.names.all fun y => decide (scope.names.lookup y.1 = some y.2)) && (own.all fun p => decide (N[p.2]? = some p.1)) &&
    (scope.names.all fun y => match y.2 with
      | .free => (match sc.names.lookup y.1 with | some .cell => true | some .free => true | _ => false)
      | .local => decide (y.1 ∈ own.map (·.1)) || decide (y.1 ∉ N)
      | .cell => decide (y.1 ∈ own.map (·.1)) || decide (y.1 ∉ N)
      | _ => true)
theorem blkOk_by {N : List Str} {sc scope : Scope} {own : List (Str × Nat)} (h : blkC N sc scope own = true) : BlkOk N sc scope own := by
  unfold blkC at h
  simp only [Bool.and_eq_true, List.all_eq_true, decide_eq_true_eq] at h
  obtain ⟨⟨⟨h1, h2⟩, h3⟩, h4⟩ := h
  refine ⟨?_, h2, h3, fun y hy e => ?_, fun y hy e => ?_⟩
  · split at h1
    · assumption
    · cases h1
  · have q := h4 y hy
    simp only [e] at q
    split at q <;> first | exact .inl (by assumption) | exact .inr (by assumption) | cases q
  · have q := h4 y hy
    rcases e with e | e <;> (simp only [e, Bool.or_eq_true, decide_eq_true_eq] at q; exact q)
end L2
namespace L2
open PySem PySem.Spec PyProof.Rows
section
variable {prog : Program} {w : World} {A : Around} {R : Result → Shared → Prop} {s : Shared} {elt t0 i0 t1 i1 : Expr} {ifs0 ifs1 : List Expr} {scope : Scope} {pos : Pos} {it acc : Value} {env : Env}
end
section
variable {X : Cx}
end
end L2
namespace L2
open PySem PySem.Spec PyProof.Rows
section
variable {κ : Type} [DecidableEq κ]
def valV (kvs : List (κ × V)) (k : κ) : Option V := (kvs.find? fun kv => decide (kv.1 = k)).map (·.2)
def putK (kvs : List (κ × V)) (k : κ) (v : V) : List (κ × V) :=
  if (kvs.any fun kv => decide (kv.1 = k)) = true then kvs.map (fun kv => if kv.1 = k then (kv.1, v) else kv) else kvs ++ [(k, v)]
def dropK (kvs : List (κ × V)) (k : κ) : List (κ × V) := kvs.filter fun kv => decide (kv.1 ≠ k)
theorem valV_pos {p : κ × V} {r : List (κ × V)} {k : κ} (e : p.1 = k) : valV (p :: r) k = some p.2 := by simp [valV, List.find?_cons, e]
theorem valV_neg {p : κ × V} {r : List (κ × V)} {k : κ} (e : ¬ p.1 = k) : valV (p :: r) k = valV r k := by simp [valV, List.find?_cons, e]
theorem valV_any (k : κ) : ∀ kvs : List (κ × V), (kvs.any fun kv => decide (kv.1 = k)) = (valV kvs k).isSome
  | [] => rfl
  | p :: r => by
    rw [List.any_cons]
    by_cases e : p.1 = k
    · simp only [valV_pos e, decide_eq_true e, Bool.true_or, Option.isSome_some]
    · rw [valV_neg e, decide_eq_false e, Bool.false_or]; exact valV_any k r
theorem length_putK (kvs : List (κ × V)) (k : κ) (v : V) : (putK kvs k v).length ≤ kvs.length + 1 := by
  unfold putK
  split
  · rw [List.length_map]; omega
  · rw [List.length_append, List.length_cons, List.length_nil]; omega
theorem RelO.isSome_eq {o : Option V} {u : Option Value} (r : RelO o u) : o.isSome = u.isSome := by
  cases o with
  | none => cases u with
    | none => rfl
    | some _ => exact (show False from r).elim
  | some _ => cases u with
    | none => exact (show False from r).elim
    | some _ => rfl
theorem RelO.getD {o : Option V} {u : Option Value} {d : V} {d' : Value} (r : RelO o u) (rd : RelV d d') : RelV (o.getD d) (u.getD d') := by
  cases o with
  | none => cases u with
    | none => exact rd
    | some _ => exact (show False from r).elim
  | some _ => cases u with
    | none => exact (show False from r).elim
    | some _ => exact r
theorem KV.val {kvs : List (κ × V)} {vs : List (κ × Value)} (r : KV kvs vs) (k : κ) : RelO (valV kvs k) (valueAt vs k) := by
  unfold KV at r
  induction r with
  | nil => exact True.intro
  | @cons p q ps qs h t ih =>
    obtain ⟨h1, h2⟩ := h
    by_cases e : p.1 = k
    · have e' : q.1 = k := h1.symm.trans e
      have b : valueAt (q :: qs) k = some q.2 := by simp [valueAt, List.find?_cons, e']
      rw [valV_pos e, b]; exact h2
    · have e' : ¬ q.1 = k := fun z => e (h1.trans z)
      have b : valueAt (q :: qs) k = valueAt qs k := by simp [valueAt, List.find?_cons, e']
      rw [valV_neg e, b]; exact ih
theorem KV.any {kvs : List (κ × V)} {vs : List (κ × Value)} (r : KV kvs vs) (k : κ) : (kvs.any fun kv => decide (kv.1 = k)) = vs.any fun kv => decide (kv.1 = k) := by
  unfold KV at r
  induction r with
  | nil => rfl
  | cons h t ih => rw [List.any_cons, List.any_cons, ih, h.1]
theorem KV.repl {kvs : List (κ × V)} {vs : List (κ × Value)} (r : KV kvs vs) (k : κ) {y : V} {u : Value} (ry : RelV y u) :
    KV (kvs.map fun kv => if kv.1 = k then (kv.1, y) else kv) (vs.map fun kv => if kv.1 = k then (kv.1, u) else kv) := by
  unfold KV at r ⊢
  induction r with
  | nil => exact .nil
  | @cons p q ps qs h t ih =>
    rw [List.map_cons, List.map_cons]
    refine .cons ?_ ih
    obtain ⟨h1, h2⟩ := h
    by_cases e : p.1 = k
    · rw [if_pos e, if_pos (h1.symm.trans e)]; exact ⟨h1, ry⟩
    · rw [if_neg e, if_neg (fun z => e (h1.trans z))]; exact ⟨h1, h2⟩
theorem KV.put {kvs : List (κ × V)} {vs : List (κ × Value)} (r : KV kvs vs) (k : κ) {y : V} {u : Value} (ry : RelV y u) : KV (putK kvs k y) (stored vs k u) := by
  unfold putK stored
  rw [r.any k]
  by_cases e : (vs.any fun kv => decide (kv.1 = k)) = true
  · rw [if_pos e, if_pos e]; exact r.repl k ry
  · rw [if_neg e, if_neg e]; exact Paired.snoc r ⟨rfl, ry⟩
theorem KV.drop {kvs : List (κ × V)} {vs : List (κ × Value)} (r : KV kvs vs) (k : κ) : KV (dropK kvs k) (without vs k) := by
  unfold KV at r ⊢
  unfold dropK without
  induction r with
  | nil => exact .nil
  | @cons p q ps qs h t ih =>
    obtain ⟨h1, h2⟩ := h
    rw [List.filter_cons, List.filter_cons]
    by_cases e : p.1 = k
    · have a : ¬ decide (p.1 ≠ k) = true := by simp [e]
      have b : ¬ decide (q.1 ≠ k) = true := by simp [h1.symm.trans e]
      rw [if_neg a, if_neg b]; exact ih
    · have e' : ¬ q.1 = k := fun z => e (h1.trans z)
      have a : decide (p.1 ≠ k) = true := by simp [e]
      have b : decide (q.1 ≠ k) = true := by simp [e']
      rw [if_pos a, if_pos b]; exact .cons ⟨h1, h2⟩ ih
theorem KV.keys {kvs : List (κ × V)} {vs : List (κ × Value)} (r : KV kvs vs) : kvs.map (·.1) = vs.map (·.1) := by
  unfold KV at r
  induction r with
  | nil => rfl
  | cons h t ih => rw [List.map_cons, List.map_cons, ih, h.1]
theorem KV.length {kvs : List (κ × V)} {vs : List (κ × Value)} (r : KV kvs vs) : kvs.length = vs.length := Paired.length r
end
theorem kV_is {P : Program} {w : World} {k : Key} {u : Value} (r : RelV (kV k) u) : (mixKind P w).is k u = true := by
  cases k with
  | inl i => obtain ⟨t, e⟩ := (show ∃ t, u = Value.int i t from r); subst e; exact mixKind_int P w i t
  | inr x => obtain ⟨t, e⟩ := (show ∃ t, u = Value.str x t from r); subst e; exact mixKind_str P w x t
theorem items_are {P : Program} {w : World} : ∀ {ks : List Key} {us : List Value}, Vals (ks.map kV) us → ItemsAre (mixKind P w) ks us
  | [], _, r => by rw [List.map_nil] at r; cases r; exact .nil
  | k :: ks, _, r => by
    rw [List.map_cons] at r
    cases r with
    | cons h t => exact .cons (kV_is h) (items_are t)
abbrev KT (H : Hp) : List (List Key × V) → List (List Key × Addr × Value) → Prop := Paired fun p q => p.1 = q.1 ∧ H q.2.1 = some (.tup (p.1.map kV)) ∧ RelV p.2 q.2.2
theorem KT.val {H : Hp} {kvs : List (List Key × V)} {xs : List (List Key × Addr × Value)} (r : KT H kvs xs) (k : List Key) : RelO (valV kvs k) ((atKey xs k).map (·.2)) := by
  induction r with
  | nil => exact True.intro
  | @cons p q ps qs h t ih =>
    obtain ⟨h1, _, h2⟩ := h
    by_cases e : p.1 = k
    · have e' : q.1 = k := h1.symm.trans e
      have b : atKey (q :: qs) k = some q.2 := by simp [atKey, List.find?_cons, e']
      rw [valV_pos e, b]; exact h2
    · have e' : ¬ q.1 = k := fun z => e (h1.trans z)
      have b : atKey (q :: qs) k = atKey qs k := by simp [atKey, List.find?_cons, e']
      rw [valV_neg e, b]; exact ih
theorem KT.repl {H : Hp} {kvs : List (List Key × V)} {xs : List (List Key × Addr × Value)} (r : KT H kvs xs) (k : List Key) {y : V} {u : Value} (ry : RelV y u) :
    KT H (kvs.map fun kv => if kv.1 = k then (kv.1, y) else kv) (xs.map (putAt k u)) := by
  induction r with
  | nil => exact .nil
  | @cons p q ps qs h t ih =>
    rw [List.map_cons, List.map_cons]
    refine .cons ?_ ih
    obtain ⟨h1, h2, h3⟩ := h
    unfold putAt
    by_cases e : p.1 = k
    · rw [if_pos e, if_pos (h1.symm.trans e)]; exact ⟨h1, h2, ry⟩
    · rw [if_neg e, if_neg (fun z => e (h1.trans z))]; exact ⟨h1, h2, h3⟩
theorem KT.put {H : Hp} {kvs : List (List Key × V)} {xs : List (List Key × Addr × Value)} (r : KT H kvs xs) (k : List Key) {b : Addr} {y : V} {u : Value} (hb : H b = some (.tup (k.map kV))) (ry : RelV y u) :
    KT H (putK kvs k y) (storedH xs k b u) := by
  have e : (kvs.any fun kv => decide (kv.1 = k)) = (atKey xs k).isSome := by
    rw [valV_any, (r.val k).isSome_eq, Option.isSome_map]
  unfold putK storedH
  rw [e]
  by_cases q : (atKey xs k).isSome = true
  · rw [if_pos q, if_pos q]; exact r.repl k ry
  · rw [if_neg q, if_neg q]; exact Paired.snoc r ⟨rfl, hb, ry⟩
theorem KT.keeps {H H' : Hp} {kvs : List (List Key × V)} {xs : List (List Key × Addr × Value)} (r : KT H kvs xs) (ht : ∀ b ys, H b = some (.tup ys) → H' b = some (.tup ys)) : KT H' kvs xs :=
  Paired.mapP r fun _ _ z => ⟨z.1, ht _ _ z.2.1, z.2.2⟩
section
variable {P : Program} {w : World} {H : Hp} {h : Heap} {a : Addr}
theorem rd_of {u : HO} (ok : HOk P w H h) (e : Rd H a u) : ObjOk P w H h a u := e.ok ok
theorem dk_rd {kvs : List (Key × V)} (ok : HOk P w H h) (e : Rd H a (.dK kvs)) : kvs.length ≤ sizeLine ∧ (a == sysModules) = false ∧ ∃ vs, KV kvs vs ∧ h.DictOf (mixKind P w) a vs :=
  show ObjOk P w H h a (.dK kvs) from rd_of ok e
theorem dk_of {kvs : List (Key × V)} (ok : HOk P w H h) (e : H a = some (.dK kvs)) : kvs.length ≤ sizeLine ∧ (a == sysModules) = false ∧ ∃ vs, KV kvs vs ∧ h.DictOf (mixKind P w) a vs := dk_rd ok (.inl e)
theorem key_of {ks : List Key} (ok : HOk P w H h) (e : H a = some (.tup (ks.map kV))) : (tupleKind (mixKind P w)).is h ks a := by
  obtain ⟨_, its, r, o, h1, h2, n, h3, _⟩ := (show ObjOk P w H h a (.tup (ks.map kV)) from ok a _ e)
  exact ⟨o, its.toArray, n, h1, h2, h3, by simpa using items_are r⟩
theorem dt_rd {kvs : List (List Key × V)} (ok : HOk P w H h) (e : Rd H a (.dT kvs)) : kvs.length ≤ sizeLine ∧ (a == sysModules) = false ∧
    ∃ xs, KT H kvs xs ∧ h.DictOfH (tupleKind (mixKind P w)) a xs := by
  obtain ⟨z, y, xs, r, o, es, ep, h1, h2, h3, h4, h5⟩ := (show ObjOk P w H h a (.dT kvs) from rd_of ok e)
  refine ⟨z, y, xs, r, o, es, ep, h1, h2, h3, h4, fun x hx => ?_, h5⟩
  have all : ∀ {l : List (List Key × V)} {m : List (List Key × Addr × Value)}, KT H l m → ∀ x ∈ m, (tupleKind (mixKind P w)).is h x.1 x.2.1 := by
    intro l m q
    induction q with
    | nil => intro x hx; exact nomatch hx
    | @cons p q ps qs hq t ih =>
      intro x hx
      rcases List.mem_cons.mp hx with e | hx
      · subst e
        exact key_of ok (by rw [← hq.1]; exact hq.2.1)
      · exact ih x hx
  exact all r x hx
theorem dt_of {kvs : List (List Key × V)} (ok : HOk P w H h) (e : H a = some (.dT kvs)) : kvs.length ≤ sizeLine ∧ (a == sysModules) = false ∧
    ∃ xs, KT H kvs xs ∧ h.DictOfH (tupleKind (mixKind P w)) a xs := dt_rd ok (.inl e)
end
def DGet (H : Hp) (a : Addr) (y : V) (r : Option V) : Prop :=
  (∃ kvs k, Rd H a (.dK kvs) ∧ y = kV k ∧ r = valV kvs k) ∨ ∃ kvs k b, Rd H a (.dT kvs) ∧ y = .ref b ∧ H b = some (.tup (k.map kV)) ∧ r = valV kvs k
def DPut (H : Hp) (a : Addr) (y v : V) (H' : Hp) : Prop :=
  (∃ kvs k, H a = some (.dK kvs) ∧ y = kV k ∧ kvs.length < sizeLine ∧ H' = upd H a (.dK (putK kvs k v))) ∨
  ∃ kvs k b, H a = some (.dT kvs) ∧ y = .ref b ∧ H b = some (.tup (k.map kV)) ∧ kvs.length < sizeLine ∧ H' = upd H a (.dT (putK kvs k v))
theorem DGet.k {H : Hp} {a : Addr} {kvs : List (Key × V)} {k : Key} (e : H a = some (.dK kvs)) : DGet H a (kV k) (valV kvs k) := .inl ⟨kvs, k, .inl e, rfl, rfl⟩
theorem DGet.t {H : Hp} {a b : Addr} {kvs : List (List Key × V)} {k : List Key} (e : H a = some (.dT kvs)) (eb : H b = some (.tup (k.map kV))) : DGet H a (.ref b) (valV kvs k) := .inr ⟨kvs, k, b, .inl e, rfl, eb, rfl⟩
theorem DPut.k {H : Hp} {a : Addr} {kvs : List (Key × V)} {k : Key} {v : V} (e : H a = some (.dK kvs)) (hl : kvs.length < sizeLine) : DPut H a (kV k) v (upd H a (.dK (putK kvs k v))) := .inl ⟨kvs, k, e, rfl, hl, rfl⟩
theorem DPut.t {H : Hp} {a b : Addr} {kvs : List (List Key × V)} {k : List Key} {v : V} (e : H a = some (.dT kvs)) (eb : H b = some (.tup (k.map kV))) (hl : kvs.length < sizeLine) :
    DPut H a (.ref b) v (upd H a (.dT (putK kvs k v))) := .inr ⟨kvs, k, b, e, rfl, eb, hl, rfl⟩
section
variable {X : Cx} {pins : List (Addr × Obj)} {σ : St} {H : Hp} {s : Shared} {a : Addr} {y v : V} {u r : Value} {o : Option V} {A : Around} {E : Value → Shared → Prop}
theorem Inv.big (I : Inv X pins σ H s) : sysModules < s.heap.objs.size := by
  have h : mainGlobals < s.heap.objs.size := (I.mod.glob.keeps I.bk).lt
  exact Nat.lt_trans (by decide) h
theorem d_getItem {Q : Value → Shared → Prop} (hu : A.units + 1 < cLine) (I : Inv X pins σ H s) (g : DGet H a y (some v)) (ry : RelV y u) (h : ∀ w' s', Inv X pins σ H s' → RelV v w' → Q w' s') :
    wpAny (model X.prog X.w) A (getItem (.ref a) u) Q E s := by
  rcases g with ⟨kvs, k, e, ey, l⟩ | ⟨kvs, k, b, e, ey, eb, l⟩
  · subst ey
    obtain ⟨z, hd, vs, rel, dd⟩ := dk_rd I.hok e
    obtain ⟨w', hw, rw'⟩ := RelO.some_of (v := v) (o := valueAt vs k) (by rw [l]; exact rel.val k)
    exact wpAny_getItem_of (kV_is ry) dd.mapOf hw (h w' _ (I.tok _) rw')
  · subst ey
    cases (show u = Value.ref b from ry)
    obtain ⟨z, hd, xs, rel, dd⟩ := dt_rd I.hok e
    obtain ⟨w', hw, rw'⟩ := RelO.some_of (v := v) (o := (atKey xs k).map (·.2)) (by rw [l]; exact rel.val k)
    obtain ⟨p, hp, hp2⟩ := Option.map_eq_some_iff.mp hw
    refine wpAny_getItem_heap (tupleKind_room_in1 hu) (key_of I.hok eb) dd hp ?_
    rw [hp2]
    exact h w' _ (I.tok _) rw'
theorem d_write {h' : Heap} {t' : Nat} {ob : HO} (I : Inv X pins σ H s) (mu : Mut (H a)) (hs : Heap.SameBut a s.heap h') (he : ∃ q, h'.get? a = some q) (new : ObjOk X.prog X.w (upd H a ob) h' a ob) :
    Inv X pins σ (upd H a ob) { s with heap := h', toks := t' } :=
  I.write (x := a) (e := a) mu (.inl rfl) (fun b q hb z => (hs.2 b hb).trans z) he new
theorem dk_new {P : Program} {w : World} {H' : Hp} {h' : Heap} {kvs : List (Key × V)} {vs : List (Key × Value)} (z : kvs.length ≤ sizeLine) (hd : (a == sysModules) = false) (rel : KV kvs vs) (dd : h'.DictOf (mixKind P w) a vs) :
    ObjOk P w H' h' a (.dK kvs) := ⟨z, hd, vs, rel, dd⟩
theorem d_setItem {H' : Hp} {Q : Unit → Shared → Prop} (hu : A.units + 1 < cLine) (I : Inv X pins σ H s) (g : DPut H a y v H') (ry : RelV y u) (rv : RelV v r) (h : ∀ s', Inv X pins σ H' s' → Q () s') :
    wpAny (model X.prog X.w) A (setItem (.ref a) u r) Q E s := by
  rcases g with ⟨kvs, k, e, ey, l, eH⟩ | ⟨kvs, k, b, e, ey, eb, l, eH⟩
  · subst ey eH
    obtain ⟨z, hd, vs, rel, dd⟩ := dk_of I.hok e
    have hz : vs.length ≤ sizeLine := by rw [← rel.length]; exact z
    have hl : (putK kvs k v).length ≤ sizeLine := by have := length_putK kvs k v; omega
    refine wpAny_setItem_pairs (hsz := hz) (kV_is ry) dd fun h' dd' hs => h _ ?_
    have he : ∃ q, h'.get? a = some q := let ⟨q, _, _, hq, _⟩ := dd'; ⟨q, hq⟩
    exact d_write I (by rw [e]; exact True.intro) hs he (dk_new hl hd (rel.put k rv) dd')
  · subst ey eH
    cases (show u = Value.ref b from ry)
    obtain ⟨z, hd, xs, rel, dd⟩ := dt_of I.hok e
    have hz : xs.length ≤ sizeLine := by rw [← Paired.length rel]; exact z
    have hl : (putK kvs k v).length ≤ sizeLine := by have := length_putK kvs k v; omega
    refine wpAny_setItem_heap (hsz := hz) (tupleKind_room_in1 hu) (key_of I.hok eb) dd fun h' dd' hs => h _ ?_
    obtain ⟨q, es, ep, hq, h2, h3, h4, _, h5⟩ := dd'
    refine d_write I (by rw [e]; exact True.intro) hs ⟨q, hq⟩ ⟨hl, hd, _, (rel.put k eb rv).keeps fun c ys ec => ?_, q, es, ep, hq, h2, h3, h4, h5⟩
    rw [upd_ne (ne_of ec e (fun z => nomatch z))]
    exact ec
end
section
variable {X : Cx} {pins : List (Addr × Obj)} {σ : St} {H : Hp} {s : Shared} {a : Addr} {kvs : List (Key × V)} {k : Key} {u : Value} {A : Around} {E : Value → Shared → Prop}
theorem d_len {Q : Value → Shared → Prop} (I : Inv X pins σ H s) (e : Rd H a (.dK kvs)) (h : ∀ t s', Inv X pins σ H s' → Q (.int kvs.length t) s') : wpAny (model X.prog X.w) A (call (.builtin "len") [.ref a]) Q E s := by
  obtain ⟨z, hd, vs, rel, dd⟩ := dk_rd I.hok e
  refine call_len_dict hd dd (by rw [← rel.length]; rw [sizeLine_eq] at z; omega) ?_
  rw [← rel.length]
  exact h _ _ (I.tok _)
end
def NoSl (i : Expr) : Prop := ∀ ov iv, subscripted i false ov iv = operate [ov, iv] (getItem ov iv)
theorem subD_of {prog : Program} {w : World} {A : Around} {E : Value → Shared → Prop} {s : Shared} {env : Env} {value slice : Expr} {pos : Pos} {T id : String} {Q : Value → Shared → Prop}
    (hl : typeLookup (.type T) "__getitem__" = pure (some (.builtin id))) (hs : NoSl slice)
    (h : wpAny (model prog w) A (eval value env) (fun o s₁ => wpAny (model prog w) A (eval slice env) (fun i s₂ => s₂.TypeIs o T ∧ wpAny (model prog w) A (getItem o i) Q E s₂) E s₁) E s) :
    wpAny (model prog w) A (eval (.Subscript value slice pos) env) Q E s := by
  refine Subscript_ (wpAny_mono h (fun o s₁ h₁ => wpAny_mono h₁ (fun i s₂ h₂ => ?_) fun _ _ x => x) fun _ _ x => x)
  obtain ⟨hT, h₂⟩ := h₂
  unfold subscriptTail
  refine wpAny_bind ?_
  rw [getitemInPython_of_ne hT.not_modules]
  refine wpAny_bind (wpAny_specialOf hT hl ?_)
  have fin : wpAny (model prog w) A (subscripted slice false o i) (fun r s₃ => wpAny (model prog w) A (letTemporaryGo value o r >>= fun _ => pure r) Q E s₃) E s₂ := by
    rw [hs o i]
    exact wpAny_operating (wpAny_mono h₂ (fun r s₃ h₃ => wpAny_bind (wpAny_letTemporaryGo (wpAny_pure h₃))) fun _ _ x => x)
  first
    | exact wpAny_pure (wpAny_bind fin)
    | exact wpAny_bind (wpAny_pure (wpAny_bind fin))
    | exact wpAny_bind fin
theorem dict_typeIs {X : Cx} {pins : List (Addr × Obj)} {σ : St} {H : Hp} {s : Shared} {a : Addr} {y : V} {o : Option V} (I : Inv X pins σ H s) (g : DGet H a y o) : s.TypeIs (.ref a) "dict" := by
  rcases g with ⟨kvs, k, e, _, _⟩ | ⟨kvs, k, b, e, _, _, _⟩
  · obtain ⟨_, _, vs, _, dd⟩ := dk_rd I.hok e
    exact dd.typeIs
  · obtain ⟨_, _, xs, _, dd⟩ := dt_rd I.hok e
    exact dd.typeIs
def tDGet (td ty : TE) : TE := fun σ H Q => td σ H fun x H1 => ty σ H1 fun y H2 => ∃ a v, x = .ref a ∧ DGet H2 a y (some v) ∧ Q v H2
def sDPut (td ty tv : TE) : TS := fun D σ H => tv σ H fun v H1 => td σ H1 fun x H2 => ty σ H2 fun y H3 => ∃ a H4, x = .ref a ∧ DPut H3 a y v H4 ∧ D.nx σ H4
section
variable {X : Cx} {o i e value : Expr} {pos pos' tpos : Pos} {td ty tv : TE}
theorem pe_dget (hu : X.A.units + 1 < cLine) (ho : PE X o td) (hi : PE X i ty) (hs : NoSl i) : PE X (.Subscript o i pos) (tDGet td ty) := by
  intro pins s σ H Q I h
  refine subD_of PySem.F.slot_dict_getitem.lookup hs (thn (ho pins s σ H _ I h) fun u s1 ⟨x, H1, I1, rx, q1⟩ => thn (hi pins s1 σ H1 _ I1 q1) fun iv s2 ⟨y, H2, I2, ry, a, v, ex, g, q2⟩ => ?_)
  subst ex
  obtain rfl : u = Value.ref a := rx
  exact ⟨dict_typeIs I2 g, d_getItem hu I2 g ry fun w' s3 I3 rw' => ⟨v, H2, I3, rw', q2⟩⟩
theorem ps_dput (hu : X.A.units + 1 < cLine) (ho : PE X o td) (hi : PE X i ty) (hv : PE X value tv) (hs : swapsWith value (some (.Subscript o i pos')) pos.line X.env = pure false) :
    PS X (.Assign [.Subscript o i pos'] value pos) (sDPut td ty tv) := by
  intro pins s σ H D I h
  refine wpAny_Assign_Subscript (thn (hv pins s σ H _ I h) fun r s1 ⟨v, H1, I1, rv, q1⟩ => thn (ho pins s1 σ H1 _ I1 q1) fun u s2 ⟨x, H2, I2, rx, q2⟩ => thn (hi pins s2 σ H2 _ I2 q2) fun iv s3 ⟨y, H3, I3, ry, a, H4, ex, g, q3⟩ => ?_) hs
  subst ex
  obtain rfl : u = Value.ref a := rx
  exact d_setItem hu I3 g ry rv fun s4 I4 => ⟨σ, H4, I4, q3⟩
end
theorem dk_empty {P : Program} {w : World} {H : Hp} (h : Heap) (hb : sysModules < h.objs.size) : ObjOk P w H (h.push { cls := .type "dict", data := .dict #[] }) h.objs.size (.dK []) :=
  ⟨Nat.zero_le _, beq_eq_false_iff_ne.mpr (Ne.symm (Nat.ne_of_lt hb)), [], .nil, Heap.DictOf.new h⟩
def tDNewK : TE := fun _ H Q => ∀ p, H p = none → Q (.ref p) (upd H p (.dK []))
section
variable {X : Cx} {pos : Pos}
theorem pe_dnewK : PE X (.Dict [] [] pos) tDNewK := fun pins s σ H Q I h =>
  wpAny_Dict_empty ⟨.ref s.heap.objs.size, _, I.laid (a := s.heap.objs.size) (o := .dK []) (t' := s.toks) (fun _ _ q => Heap.get?_push_of_some _ q) (Nat.le_refl _) (dk_empty s.heap I.big), rfl, h _ (I.hok.fresh (Nat.le_refl _))⟩
end
def mergeK (kvs more : List (Key × V)) : List (Key × V) := more.foldl (fun acc kv => putK acc kv.1 kv.2) kvs
theorem KV.merge : ∀ {more : List (Key × V)} {rs : List (Key × Value)} {kvs : List (Key × V)} {vs : List (Key × Value)}, KV more rs → KV kvs vs → KV (mergeK kvs more) (merged vs rs) := by
  intro more rs kvs vs r
  unfold KV at r
  induction r generalizing kvs vs with
  | nil => intro q; exact q
  | @cons p q ps qs h t ih =>
    intro r0
    have e : KV (putK kvs p.1 p.2) (stored vs q.1 q.2) := by
      have := r0.put p.1 h.2
      rw [← h.1]; exact this
    exact ih e
theorem length_mergeK : ∀ (more kvs : List (Key × V)), (mergeK kvs more).length ≤ kvs.length + more.length
  | [], kvs => by show kvs.length ≤ kvs.length + 0; omega
  | p :: r, kvs => by
    have h1 := length_mergeK r (putK kvs p.1 p.2)
    have h2 := length_putK kvs p.1 p.2
    show (mergeK (putK kvs p.1 p.2) r).length ≤ _
    rw [List.length_cons]; omega
structure M1 (X : Cx) (o : Expr) (m : Str) (apos : Pos) (e : Expr) (cpos : Pos) : Prop where
  base : attributeBase o m X.env (eval o X.env) = eval o X.env
  few : ((backTo cpos (starEach [e] X.env)).all (fun x => !x.1) && (backToKw cpos (keywordEach [] X.env)).all (fun x => x.1.isSome)
    && decide (([e] : List Expr).length + ([] : List Keyword).length + (if ([] : List Keyword).isEmpty then 0 else 1) < 30)) = true
  line : (apos.endLine == cpos.line) = true
  trees : backTo cpos (starEach [e] X.env) = [(false, eval e X.env)]
structure M2 (X : Cx) (o : Expr) (m : Str) (apos : Pos) (e f : Expr) (cpos : Pos) : Prop where
  base : attributeBase o m X.env (eval o X.env) = eval o X.env
  few : ((backTo cpos (starEach [e, f] X.env)).all (fun x => !x.1) && (backToKw cpos (keywordEach [] X.env)).all (fun x => x.1.isSome)
    && decide (([e, f] : List Expr).length + ([] : List Keyword).length + (if ([] : List Keyword).isEmpty then 0 else 1) < 30)) = true
  line : (apos.endLine == cpos.line) = true
  trees : backTo cpos (starEach [e, f] X.env) = [(false, eval e X.env), (false, eval f X.env)]
def IsD (H : Hp) (a : Addr) : Prop := (∃ kvs, Rd H a (.dK kvs)) ∨ ∃ kvs, Rd H a (.dT kvs)
theorem isD_at {X : Cx} {pins : List (Addr × Obj)} {σ : St} {H : Hp} {s : Shared} {a : Addr} (I : Inv X pins σ H s) (d : IsD H a) :
    s.TypeIs (.ref a) "dict" ∧ (∀ b, Value.ref a = .ref b → ∃ ob, s.heap.get? b = some ob ∧ ob.dict = none) ∧ (a == sysModules) = false := by
  rcases d with ⟨kvs, e⟩ | ⟨kvs, e⟩
  · obtain ⟨_, hd, vs, _, dd⟩ := dk_rd I.hok e
    refine ⟨dd.typeIs, fun b q => ?_, hd⟩
    cases q
    obtain ⟨ob, _, _, h1, h2, _⟩ := dd
    exact ⟨ob, h1, h2.2.1⟩
  · obtain ⟨_, hd, xs, _, dd⟩ := dt_rd I.hok e
    refine ⟨dd.typeIs, fun b q => ?_, hd⟩
    cases q
    obtain ⟨ob, _, _, h1, h2, _⟩ := dd
    exact ⟨ob, h1, h2.2.1⟩
section
variable {X : Cx} {pins : List (Addr × Obj)} {σ : St} {H : Hp} {s : Shared} {a : Addr} {y d : V} {u r : Value} {o : Option V} {A : Around} {E : Value → Shared → Prop}
theorem d_get2 {Q : Value → Shared → Prop} (hu : A.units + 1 < cLine) (I : Inv X pins σ H s) (g : DGet H a y o) (ry : RelV y u) (rd : RelV d r) (h : ∀ w' s', Inv X pins σ H s' → RelV (o.getD d) w' → Q w' s') :
    wpAny (model X.prog X.w) A (call (.builtin "dict.get") [.ref a, u, r]) Q E s := by
  rcases g with ⟨kvs, k, e, ey, l⟩ | ⟨kvs, k, b, e, ey, eb, l⟩
  · subst ey
    obtain ⟨z, hd, vs, rel, dd⟩ := dk_rd I.hok e
    refine call_meetsIn PySem.F.slot_dict_get dd.typeIs PySem.F.entry_dict_get (PySem.F.args_dict_get_3 _ _ _) (meets_dict_get_default (mixKind X.prog X.w) a (kV_is ry) hd r) ⟨_, dd.mapOf, h _ _ (I.tok _) ?_⟩
    rw [l]
    exact (rel.val k).getD rd
  · subst ey
    cases (show u = Value.ref b from ry)
    obtain ⟨z, hd, xs, rel, dd⟩ := dt_rd I.hok e
    refine call_meetsIn PySem.F.slot_dict_get dd.typeIs PySem.F.entry_dict_get (PySem.F.args_dict_get_3 _ _ _) (meetsH_dict_get_default (tupleKind (mixKind X.prog X.w)) a b hd r) ⟨tupleKind_room_in1 hu, k, xs, key_of I.hok eb, dd, h _ _ (I.tok _) ?_⟩
    rw [l]
    exact (rel.val k).getD rd
end
def tDGet2 (td ty tx : TE) : TE := fun σ H Q => td σ H fun x H1 => ∃ a, x = .ref a ∧ IsD H1 a ∧ ty σ H1 fun y H2 => tx σ H2 fun z H3 => ∃ o, DGet H3 a y o ∧ Q (o.getD z) H3
section
variable {X : Cx} {o e f : Expr} {apos cpos : Pos} {td ty tx : TE}
theorem pe_dget2 (hu : X.A.units + 1 < cLine) (ho : PE X o td) (he : PE X e ty) (hf : PE X f tx) (m : M2 X o "get" apos e f cpos) : PE X (.Call (.Attribute o "get" apos) [e, f] [] cpos) (tDGet2 td ty tx) := by
  intro pins s σ H Q I h
  refine wpAny_Call_method m.base m.few m.line PySem.F.plainAttrs_dict PySem.F.slot_dict_get PySem.F.type_dict_get (thn (ho pins s σ H _ I h) fun u s1 ⟨x, H1, I1, rx, a, ex, d, q1⟩ => ?_)
  subst ex
  obtain rfl : u = Value.ref a := rx
  obtain ⟨t1, t2, _⟩ := isD_at I1 d
  refine ⟨t1, t2, ?_⟩
  rw [m.trees]
  refine Calls.callWith_builtin rfl (Calls.evalArgs_plain (Calls.spliced_cons (thn (he pins s1 σ H1 _ I1 q1) fun iv s2 ⟨y, H2, I2, ry, q2⟩ =>
    Calls.spliced_cons (thn (hf pins s2 σ H2 _ I2 q2) fun fv s3 ⟨z, H3, I3, rz, ov, g, q3⟩ => Calls.spliced_nil ?_))))
  exact d_get2 hu I3 g ry rz fun w' s4 I4 rw' => ⟨_, H3, I4, rw', q3⟩
end
section
variable {X : Cx} {pins : List (Addr × Obj)} {σ : St} {H : Hp} {s : Shared} {a : Addr} {kvs : List (Key × V)} {A : Around} {E : Value → Shared → Prop}
theorem d_copyOf {Q : Value → Shared → Prop} (I : Inv X pins σ H s) (e : Rd H a (.dK kvs)) (h : ∀ p s', H p = none → Inv X pins σ (upd H p (.dK kvs)) s' → Q (.ref p) s') : wpAny (model X.prog X.w) A (call (.type "dict") [.ref a]) Q E s := by
  obtain ⟨z, hd, vs, rel, dd⟩ := dk_rd I.hok e
  refine kt_call_dict hd dd (by rw [← rel.length]; exact z) fun h' dd' hs => ?_
  refine h _ _ (I.hok.fresh (Nat.le_refl _)) (I.laid (a := s.heap.objs.size) (o := .dK kvs) (t' := s.toks) (fun b q hq => ?_) (Nat.le_refl _) (dk_new z (beq_eq_false_iff_ne.mpr (Ne.symm (Nat.ne_of_lt I.big))) rel dd'))
  exact (hs.2 b (Nat.ne_of_lt (Heap.lt_size hq))).trans (Heap.get?_push_of_some _ hq)
end
section
variable {X : Cx} {pins : List (Addr × Obj)} {σ : St} {H : Hp} {s : Shared} {a : Addr} {y : V} {u : Value} {A : Around} {E : Value → Shared → Prop}
end
end L2
namespace L2
open PySem PySem.Spec PyProof.Rows
theorem list_keys_none : typeLookup (.type "list") "keys" = pure none := am_miss_of_fast (by first | decide +kernel | rfl)
theorem ud_entry : entryFor table "dict.update.loop" = some Builtin.«dict.update.loop» := entryFor_of_tree (by kernel_rfl)
theorem ud_plain : plainId "dict.update.loop" = true := by decide +kernel
section
variable {prog : Program} {w : World} {A : Around} {E : Value → Shared → Prop}
theorem miss_list {s : Shared} {a : Addr} {o : Obj} {xs : Array Value} {k : Nat} {Q : Option Value → Shared → Prop} (hx : s.heap.get? a = some o) (hc : o.cls = .type "list") (hdat : o.data = .seq xs k) (hd : o.dict = none) (hA : A.handled = none)
    (h : ∀ h' tk, (∀ b ob, s.heap.get? b = some ob → h'.get? b = some ob) → Q none { s with heap := h', toks := tk }) : wpAny (model prog w) A (getAttr? (.ref a) "keys") Q E s := by
  obtain ⟨c, dct, dat, sl⟩ := o
  simp only at hc hdat hd
  subst hc hdat hd
  obtain ⟨hp, g, d, tk, os⟩ := s
  have hT : ∀ tk', (⟨hp, g, d, tk', os⟩ : Shared).TypeIs (.ref a) "list" := fun _ => ⟨_, hx, rfl⟩
  have hmiss := list_keys_none
  have hname : (["__module__", "__name__", "__qualname__", "__doc__", "__annotations__"] : List Str).contains "keys" = false := by decide +kernel
  have hsz : ("keys" : Str).length + 100 ≤ sizeLine := by first | size_fits | decide +kernel
  have f1 := sub_AttributeError
  have f3 := PySem.F.slot_list_getattribute.lookup
  have f4 := PySem.F.slot_list_getattribute.bind (.ref a)
  have f5 := am_list_getattr_none
  unfold getAttr? getAttrBy? getAttrBy
  repeat (any_goals (first | assumption | exact hT _ | ((with_reducible show wpAny _ _ (call (Value.builtin "list.__getattribute__") _ _) _ _ _); refine call_meets PySem.F.slot_list_getattribute (hT _) am_entry_list_getattribute (PySem.F.args_list_getattribute_2 _ _) (meets_getattribute_miss_list a xs k sl "keys" _ hmiss hname hsz) ⟨hx, hA, fun h' tk' e hx' => ?_⟩) | wp_step))
  obtain ⟨t', u', he⟩ := hx'.there
  show wpAny _ _ (getattributeRaised _ _ _ _ _ _ _) _ _ _
  unfold getattributeRaised
  repeat (any_goals (first | assumption | wp_step))
  all_goals first | exact h _ _ hx'.keeps | (dsimp only; repeat (any_goals (first | assumption | exact h _ _ hx'.keeps | wp_step)))
theorem upd_loop {R : Result → Shared → Prop} {S I l : Addr} {items : Array Value} {res : Value} (hh : A.handled = none) (hlI : l ≠ I) (hSI : S ≠ I) (hSl : S ≠ l) :
    ∀ (rest : List (Key × Value)) (i : Nat) (acc : List (Key × Value)) (ix : Int) (t : Tok) (s : Shared), items.size = i + rest.length → acc.length + rest.length ≤ sizeLine →
      (∀ (j : Nat) (q : Key × Value), rest[j]? = some q → ∃ (b : Addr) (u : Value), items[i + j]? = some (.ref b) ∧ b ≠ S ∧ b ≠ I ∧ IsTup s.heap b #[u, q.2] ∧ keyIs q.1 u = true) →
      s.heap.IsListIter I l i → s.heap.IsList l items → s.heap.DictOf (mixKind prog w) S acc →
      (∀ h' tk, h'.DictOf (mixKind prog w) S (merged acc rest) → (∀ b o, b ≠ S → b ≠ I → s.heap.get? b = some o → h'.get? b = some o) → R (.ok (.ret res)) { s with heap := h', toks := tk }) →
      codeAny (model prog w) A (.builtin "dict.update.loop" ⟨[.ref S, .ref I, .int ix t, res], []⟩) R s
  | [], i, acc, ix, t, s, hsz, hln, ht, hit, hl, hm, hR => by
    refine codeAny_builtin ud_entry ?_
    rw [Around.under_plainId ud_plain _]
    show wpAny _ A.in1 (pyNext (.ref I) >>= _) _ _ s
    refine wpAny_bind (wpAny_pyNext_list_end (A := A.in1) hh hit hl (by first | exact Array.getElem?_eq_none (Nat.le_of_eq hsz) | (simp at hsz; simp; omega)) fun h' he => ?_)
    show wpAny _ A.in1 (Builtin.Dict.addKeywords S [] >>= _) _ _ _
    refine wpAny_bind (wpAny_pure (wpAny_pure ?_))
    exact hR h' s.toks (hm.extBut he hSI) fun b o _ hb e => he b o hb e
  | q :: rest, i, acc, ix, t, s, hsz, hln, ht, hit, hl, hm, hR => by
    obtain ⟨b, u, hb, hbS, hbI, htup, hk⟩ := ht 0 q rfl
    rw [List.length_cons] at hsz hln
    refine codeAny_builtin ud_entry ?_
    rw [Around.under_plainId ud_plain _]
    show wpAny _ A.in1 (pyNext (.ref I) >>= _) _ _ s
    refine wpAny_bind (wpAny_pyNext_list_item (x := .ref b) hit hl (by simpa using hb) fun h1 hit1 hs1 => ?_)
    have ht1 : IsTup h1 b #[u, q.2] := htup.extBut hs1.extBut hbI
    have hl1 : h1.IsList l items := hl.extBut hs1.extBut hlI
    have hm1 : h1.DictOf (mixKind prog w) S acc := hm.extBut hs1.extBut hSI
    obtain ⟨o, ho, hc, n, hd⟩ := id ht1
    show wpAny _ A.in1 (holding [Value.ref b] _ >>= _) _ _ _
    refine wpAny_bind (wpAny_holding ?_)
    refine wpAny_bind (wpAny_tryCatch ?_)
    unfold Builtin.Dict.pairItems
    refine wpAny_bind (wpAny_typeOf (T := "tuple") ⟨o, ho, hc⟩ ?_)
    rw [if_pos (by first | decide | rfl | simp)]
    refine wpAny_bind (wpAny_seqItems ho hd (wpAny_pure ?_))
    show wpAny _ A.in1 (holding [u, q.2] (dictSet S u q.2)) _ _ _
    refine wpAny_holding (wpAny_dictSet_pairs (knd := mixKind prog w) (k := q.1) hk hm1 (fun h2 hm2 hs2 => ?_) (by omega))
    refine wpAny_pure ⟨plainId_quiet ud_plain _, upd_loop (items := items) hh hlI hSI hSl rest (i + 1) (stored acc q.1 q.2) (ix + 1) 0 _ (show items.size = i + 1 + rest.length by omega) ?_ (fun j q' e => ?_) ?_ ?_ hm2 fun h' tk hd' k => ?_⟩
    · have z := stored_length_le acc q.1 q.2
      omega
    · obtain ⟨b', u', hb', hbS', hbI', htup', hk'⟩ := ht (j + 1) q' (by simpa using e)
      refine ⟨b', u', ?_, hbS', hbI', (htup'.extBut hs1.extBut hbI').extBut hs2.extBut hbS', hk'⟩
      rw [show i + 1 + j = i + (j + 1) by omega]
      exact hb'
    · exact hit1.at fun o' e => hs2.extBut I o' (Ne.symm hSI) e
    · exact hl1.extBut hs2.extBut (Ne.symm hSl)
    · exact hR h' tk hd' fun c oc h3 h4 e => k c oc h3 h4 (hs2.extBut c oc h3 (hs1.extBut c oc h4 e))
theorem call_dict_pairs {s : Shared} {l : Addr} {ol : Obj} {items : Array Value} {n : Nat} {prs : List (Key × Value)} {Q : Value → Shared → Prop} (hh : A.handled = none) (hl : s.heap.get? l = some ol) (hc : ol.cls = .type "list") (hd : ol.dict = none)
    (hdat : ol.data = .seq items n) (hsz : items.size = prs.length) (hln : prs.length ≤ sizeLine)
    (ht : ∀ (j : Nat) (q : Key × Value), prs[j]? = some q → ∃ (b : Addr) (u : Value), items[j]? = some (.ref b) ∧ IsTup s.heap b #[u, q.2] ∧ keyIs q.1 u = true)
    (h : ∀ h' tk, h'.DictOf (mixKind prog w) s.heap.objs.size (merged [] prs) → (∀ b o, s.heap.get? b = some o → h'.get? b = some o) → Q (.ref s.heap.objs.size) { s with heap := h', toks := tk }) :
    wpAny (model prog w) A (call (.type "dict") [.ref l]) Q E s := by
  refine callType_codes (Q₁ := fun obj s₁ => obj = .ref s.heap.objs.size ∧ s₁ = { s with heap := s.heap.push { cls := .type "dict", data := .dict #[] } }) PySem.F.kt_called_dict (PySem.F.kt_typeCall_dict_1 _) PySem.F.entry_dict_init (kt_code_dict_new _ ⟨rfl, rfl⟩) ?_
  rintro obj s₁ ⟨rfl, rfl⟩
  have hnew : (s.heap.push { cls := .type "dict", data := .dict #[] }).DictOf (mixKind prog w) s.heap.objs.size [] := Heap.DictOf.new s.heap
  have k0 : ∀ b o, s.heap.get? b = some o → (s.heap.push { cls := .type "dict", data := .dict #[] }).get? b = some o := fun b o e => Heap.get?_push_of_some _ e
  refine ⟨hnew.typeIs, PySem.F.args_dict_init_2 _ _, ?_⟩
  unfold Builtin.«dict.__init__»
  refine wpAny_bind ?_
  unfold Builtin.Dict.selfAndRest
  refine wpAny_bind (wpAny_notOrdered_dict hnew.typeIs ?_)
  show wpAny _ _ (pure (s.heap.objs.size, [Value.ref l])) _ _ _
  refine wpAny_pure ?_
  show wpAny _ _ (Builtin.Dict.updateFrom "dict.__init__" s.heap.objs.size (.ref l) [] .none) _ _ _
  unfold Builtin.Dict.updateFrom
  refine wpAny_bind (wpAny_typeOf (T := "list") ⟨ol, k0 _ _ hl, hc⟩ ?_)
  rw [if_pos (by first | decide | rfl | simp)]
  refine wpAny_bind (miss_list (k0 _ _ hl) hc hdat hd hh fun h1 tk1 hk1 => ?_)
  rw [if_pos (show (none : Option Value).isNone = true from rfl)]
  refine wpAny_bind (wpAny_rule ?_)
  have hl1 : h1.IsList l items := ⟨ol, hk1 _ _ (k0 _ _ hl), hc, n, hdat⟩
  have hS1 : s.heap.objs.size < h1.objs.size := by
    have e : (s.heap.push { cls := .type "dict", data := .dict #[] }).get? s.heap.objs.size = some { cls := .type "dict", data := .dict #[] } := Heap.get?_push_size _ rfl
    exact Heap.lt_size (hk1 _ _ e)
  refine wpAny_bind (wpAny_pyIter_list hl1 ?_)
  have k2 : ∀ b o, h1.get? b = some o → (h1.push { cls := .type "list_iterator", data := .fields #[.ref l, .int 0 0] }).get? b = some o := fun b o e => Heap.get?_push_of_some _ e
  have hlt : l < s.heap.objs.size := Heap.lt_size hl
  have key := upd_loop (prog := prog) (w := w) (A := A.in1) (R := wants (fun r s₂ => r = .none ∧ Q (.ref s.heap.objs.size) s₂) E) (S := s.heap.objs.size) (I := h1.objs.size) (l := l) (items := items) (res := Value.none) hh
    (Nat.ne_of_lt (Nat.lt_trans hlt hS1)) (Nat.ne_of_lt hS1) (Nat.ne_of_gt hlt) prs 0 [] 0 0
    { s with heap := h1.push { cls := .type "list_iterator", data := .fields #[.ref l, .int 0 0] }, toks := tk1 } (by rw [hsz, Nat.zero_add]) (by rw [List.length_nil, Nat.zero_add]; exact hln)
    (fun j q e => by
      obtain ⟨b, u, e1, e2, e3⟩ := ht j q e
      have hb : b < s.heap.objs.size := e2.lt
      exact ⟨b, u, by rw [Nat.zero_add]; exact e1, Nat.ne_of_lt hb, Nat.ne_of_lt (Nat.lt_trans hb hS1), e2.keeps fun c o z => k2 _ _ (hk1 _ _ (k0 _ _ z)), e3⟩)
    ⟨_, Heap.get?_push_size _ rfl, rfl, rfl⟩ (hl1.at fun o e => k2 _ _ e) ((hnew.at fun o e => hk1 _ _ e).at fun o e => k2 _ _ e)
    (fun h' tk hd' k => ⟨rfl, h h' tk hd' fun b o e => k b o (Nat.ne_of_lt (Heap.lt_size e)) (Nat.ne_of_lt (Nat.lt_trans (Heap.lt_size e) hS1)) (k2 _ _ (hk1 _ _ (k0 _ _ e)))⟩)
  first
    | exact wpAny_pure ⟨plainId_quiet ud_plain _, key⟩
    | exact wpAny_bind (wpAny_pure (wpAny_pure ⟨plainId_quiet ud_plain _, key⟩))
end
section
variable {X : Cx}
theorem pairs_of {pins : List (Addr × Obj)} {σ : St} {H : Hp} {s : Shared} (I : Inv X pins σ H s) : ∀ {ps : List Addr} {kvs : List (Key × V)}, Paired (fun p kv => SqT X.K H p [kV kv.1, kv.2]) ps kvs →
    ∃ prs : List (Key × Value), KV kvs prs ∧ prs.length = ps.length ∧ ∀ (j : Nat) (q : Key × Value), prs[j]? = some q → ∃ (b : Addr) (u : Value), ps[j]? = some b ∧ IsTup s.heap b #[u, q.2] ∧ keyIs q.1 u = true
  | _, _, .nil => ⟨[], .nil, rfl, fun j q e => by simp at e⟩
  | _, _, .cons (a := p) (b := kv) h t => by
    obtain ⟨prs, r, hl, hp⟩ := pairs_of I t
    obtain ⟨its, rv, ht, _⟩ := I.tuple h
    obtain ⟨u, y, ei, ru, ry⟩ := vals2 rv
    subst ei
    refine ⟨(kv.1, y) :: prs, .cons ⟨rfl, ry⟩ r, by rw [List.length_cons, List.length_cons, hl], fun j q e => ?_⟩
    cases j with
    | zero =>
      have e' : (kv.1, y) = q := Option.some.inj e
      subst e'
      exact ⟨p, u, rfl, ht, kV_is (P := X.prog) (w := X.w) ru⟩
    | succ j =>
      obtain ⟨b, u', e1, e2, e3⟩ := hp j q (by simpa using e)
      exact ⟨b, u', by simpa using e1, e2, e3⟩
theorem refs_at : ∀ {ps : List Addr} {us : List Value}, Vals (ps.map V.ref) us → us = ps.map Value.ref
  | [], us, r => by
    rw [List.map_nil] at r
    cases r
    rfl
  | p :: ps, us, r => by
    rw [List.map_cons] at r
    cases r with
    | cons h t =>
      cases h
      rw [List.map_cons, ← refs_at t]
theorem call_dictP (hcalm : X.calm = true) : CallR X (.type "dict") (fun xs H Q => ∃ (a : Addr) (ps : List Addr) (kvs : List (Key × V)), xs = [.ref a] ∧ SqL X.K H a (ps.map V.ref) ∧ Paired (fun p kv => SqT X.K H p [kV kv.1, kv.2]) ps kvs ∧
    ∀ p, H p = none → Q (.ref p) (upd H p (.dK (mergeK [] kvs)))) := by
  intro pins s σ H xs us Q I r q
  obtain ⟨a, ps, kvs, ex, hq, hp, q⟩ := q
  subst ex
  obtain ⟨u, eu, rx⟩ := vals1 r
  subst eu
  cases rx
  obtain ⟨its, rv, pl, hz⟩ := I.list hq
  have ei := refs_at rv
  subst ei
  rw [List.length_map] at hz
  obtain ⟨prs, rel, hl, hpr⟩ := pairs_of I hp
  obtain ⟨o, n, ho, hc, hd, hdat⟩ := pl
  refine call_dict_pairs (prs := prs) (I.ok.hd hcalm) ho hc hd hdat (by simp [hl]) (by rw [hl]; exact hz) (fun j q' e => ?_) fun h' tk hd' k => ?_
  · obtain ⟨b, u, e1, e2, e3⟩ := hpr j q' e
    exact ⟨b, u, by simp [e1], e2, e3⟩
  · have hm : (s.heap.objs.size == sysModules) = false := beq_eq_false_iff_ne.mpr (Nat.ne_of_gt I.big)
    have hlen : (mergeK [] kvs).length ≤ sizeLine := by
      refine Nat.le_trans (length_mergeK kvs []) ?_
      rw [List.length_nil, Nat.zero_add, rel.length, hl]
      exact hz
    exact ⟨.ref s.heap.objs.size, upd H s.heap.objs.size (.dK (mergeK [] kvs)), I.laid (t' := tk) k (Nat.le_refl _) (show ObjOk X.prog X.w _ _ _ (.dK (mergeK [] kvs)) from ⟨hlen, hm, merged [] prs, KV.merge rel .nil, hd'⟩), rfl, q _ (I.hok.fresh (Nat.le_refl _))⟩
end
end L2
namespace L2
open PySem PySem.Spec PyProof.Rows
section
variable {X : Cx} {pins : List (Addr × Obj)} {σ : St} {H : Hp} {s : Shared} {h' : Heap}
end
section
variable {X : Cx}
theorem pi_one {tg : Expr} {pins : List (Addr × Obj)} {σ : St} {H : Hp} {s : Shared} {R : It → Hp → Prop} {J : It} {tn : Nat → Heap → Prop} {tk : Nat} (I : Inv X pins σ H s) (o : Obj)
    (T : Turn X.prog X.w X.K tg J [s.heap.objs.size] s.heap.objs.size tn) (st : tn 0 (s.heap.push o)) (q : R J H) : PIE X pins σ tg R (.ref s.heap.objs.size) { s with heap := s.heap.push o, toks := tk } := by
  refine ⟨s.heap.objs.size, [s.heap.objs.size], tn, J, H, rfl, I.kept fun b ob e => Heap.get?_push_of_some _ e, T, st, fun b hb => ?_, q⟩
  have e : b = s.heap.objs.size := by simpa using hb
  subst e
  exact I.fpOk (Nat.le_refl _) (I.hok.fresh (Nat.le_refl _))
end
section
variable {X : Cx} {tg : Expr}
end
section
variable {X : Cx} {tg : Expr}
end
def Its (x : Str) : It := ⟨fun i _ => i < x.cps.size, fun i H v H' => H' = H ∧ ∃ c, x.cps[i]? = some c ∧ v = .str ⟨#[c]⟩, fun i _ => x.cps.size ≤ i⟩
theorem turn_str {P : Program} {w : World} {K : PySem.W.Frag} {tg : Expr} (it : Addr) (x : Str) (t : Tok) (ty : String) (hty : ty = "str_ascii_iterator" ∨ ty = "str_iterator") :
    Turn P w K tg (Its x) [it] it (fun i h => h.IsStrIter it ty x t i) where
  mem := by simp
  obj := fun i h st b hb => by
    have e : b = it := by simpa using hb
    subst e
    obtain ⟨o, e, c, d⟩ := st
    exact ⟨o, e, fun v z => by rw [d] at z; cases z⟩
  keep := fun i h h' st k => let ⟨o, ho, r⟩ := st; ⟨o, k it (by simp) o ho, r⟩
  item := by
    intro X hP hw hK hc i pins s σ H E I hf st hg
    subst hP hw hK
    obtain ⟨f0, f1, f2, f3, f4, f5⟩ := hf it (by simp)
    have W : Walks X.prog X.w X.A it [it] [it] x.cps.size (SignAt x) (fun i h => h.IsStrIter it ty x t i) := by
      rcases hty with e | e
      · rw [e]; exact Walks.strAscii (I.ok.hd hc) it x t
      · rw [e]; exact Walks.strWide (I.ok.hd hc) it x t
    have hno : ["enumerate", "zip", "dict_itemiterator", "dict_reverseitemiterator", "odict_iterator", "itertools.zip_longest", "itertools.pairwise"].contains ty = false := by
      rcases hty with e | e
      · rw [e]; decide
      · rw [e]; decide
    refine W.item i s _ _ hg st fun v h' tk hv st' kk => ?_
    obtain ⟨c, u, hcx, rfl⟩ := hv
    have I1 : Inv X pins σ H { s with heap := h', toks := tk } := I.turned (fun b o hb e => kk b o (by simpa using hb) e) f0 f1 f3 f4 f5
    obtain ⟨oi, e, cc, dd⟩ := id st'
    exact ⟨_, rfl, go_of (s := { s with heap := h', toks := tk }) e cc dd hno ⟨.str ⟨#[c]⟩, H, I1, ⟨u, rfl⟩, ⟨rfl, c, hcx, rfl⟩, st', fun b hb => (hf b hb).1⟩⟩
  done := by
    intro X hP hw hK hc i pins s σ H E I hf st hg
    subst hP hw hK
    obtain ⟨f0, f1, f2, f3, f4, f5⟩ := hf it (by simp)
    have hx : x.cps[i]? = none := Array.getElem?_eq_none hg
    rcases hty with e | e
    · rw [e] at st
      exact wpAny_pyNext_ascii_end (I.ok.hd hc) st hx fun h' eb => ⟨rfl, I.turned (t' := s.toks) (fun b o hb e => eb b o hb e) f0 f1 f3 f4 f5⟩
    · rw [e] at st
      exact wpAny_pyNext_wide_end (I.ok.hd hc) st hx fun h' eb => ⟨rfl, I.turned (t' := s.toks) (fun b o hb e => eb b o hb e) f0 f1 f3 f4 f5⟩
  self := fun A i s Q E st h => by
    rcases hty with e | e
    · rw [e] at st; exact wpAny_pyIter_striter_ascii st h
    · rw [e] at st; exact wpAny_pyIter_striter_wide st h
def iStr (te : TE) : TI := fun σ H R => te σ H fun v H1 => ∃ x, v = .str x ∧ R (Its x) H1
theorem pi_str {X : Cx} {tg e : Expr} {te : TE} (he : PE X e te) : PI X tg e (iStr te) := by
  intro pins s σ H R I h
  refine thn (he pins s σ H _ I h) fun v s1 ⟨y, H1, I1, r1, x, ex, q⟩ => ?_
  subst ex
  obtain ⟨t, rfl⟩ := r1
  cases ha : x.cps.all (· < 128)
  · exact wpAny_pyIter_wide ha (pi_one (tk := s1.toks) I1 _ (turn_str _ x t "str_iterator" (.inr rfl)) ⟨_, Heap.get?_push_size _ rfl, rfl, rfl⟩ q)
  · exact wpAny_pyIter_ascii ha (pi_one (tk := s1.toks) I1 _ (turn_str _ x t "str_ascii_iterator" (.inl rfl)) ⟨_, Heap.get?_push_size _ rfl, rfl, rfl⟩ q)
section
variable {prog : Program} {w : World} {A : Around} {E : Value → Shared → Prop} {s : Shared}
end
theorem kv_get {κ : Type} {kvs : List (κ × V)} {vs : List (κ × Value)} (h : KV kvs vs) : ∀ {i : Nat} {k : κ} {v : V}, kvs[i]? = some (k, v) → ∃ u, vs[i]? = some (k, u) ∧ RelV v u := by
  unfold KV at h
  induction h with
  | nil => intro i k v e; simp at e
  | @cons a b l₁ l₂ r t ih =>
    intro i k v e
    cases i with
    | zero =>
      simp only [List.getElem?_cons_zero, Option.some.injEq] at e
      subst e
      refine ⟨b.2, ?_, r.2⟩
      simp only [List.getElem?_cons_zero]
      exact congrArg some (Prod.ext r.1.symm rfl)
    | succ j =>
      simp only [List.getElem?_cons_succ] at e ⊢
      exact ih e
section
variable {X : Cx} {pins : List (Addr × Obj)} {σ : St} {H : Hp} {s : Shared} {d : Addr} {o : Obj}
end
section
variable {P : Program} {w : World} {K : PySem.W.Frag} {tg : Expr} {d : Addr} {o : Obj} {es : Array DictEntry} {ep : Nat}
end
section
variable {X : Cx} {tg e : Expr} {td : TE} {apos cpos : Pos}
end
end L2
section 
namespace Bits
open PySem PyProof.Rows
end Bits
end 
section 
namespace TL
open PySem PySem.Builtin PySem.Builtin.Str PySem.StrLaws
abbrev tl (x : Str) : List Nat := x.cps.toList
def pre (S l : List Nat) : Bool := l.take S.length == S
def par (S : List Nat) : List Nat → List Nat → Option (List Nat × List Nat)
  | _, [] => none
  | acc, c :: r => if pre S (c :: r) = true then some (acc, (c :: r).drop S.length) else par S (acc ++ [c]) r
theorem par_miss {S acc r : List Nat} {c : Nat} (h : pre S (c :: r) = false) : par S acc (c :: r) = par S (acc ++ [c]) r := by
  show (if pre S (c :: r) = true then some (acc, (c :: r).drop S.length) else par S (acc ++ [c]) r) = _
  rw [if_neg (by rw [h]; exact Bool.false_ne_true)]
theorem pre_of_head {s c : Nat} (S r : List Nat) (h : c ≠ s) : pre (s :: S) (c :: r) = false := by
  cases hp : pre (s :: S) (c :: r) with
  | false => rfl
  | true =>
    have e : (c :: r).take (s :: S).length = s :: S := eq_of_beq hp
    rw [List.length_cons, List.take_succ_cons] at e
    injection e with e1 e2
    exact absurd e1 h
theorem getElem_drop_cons {L : List Nat} {a : Nat} (h : a < L.length) : ∃ c, L.drop a = c :: L.drop (a + 1) := ⟨L[a], List.drop_eq_getElem_cons h⟩
theorem par_run (S L : List Nat) : ∀ (m a : Nat) (acc : List Nat), a + m ≤ L.length → (∀ k, a ≤ k → k < a + m → pre S (L.drop k) = false) →
    par S acc (L.drop a) = par S (acc ++ (L.drop a).take m) (L.drop (a + m))
  | 0, a, acc, _, _ => by rw [List.take_zero, List.append_nil, Nat.add_zero]
  | m + 1, a, acc, h, hn => by
    have hlt : a < L.length := by omega
    obtain ⟨c, e⟩ := getElem_drop_cons hlt
    have h0 := hn a (Nat.le_refl _) (by omega)
    have ih := par_run S L m (a + 1) (acc ++ [c]) (by omega) (fun k h1 h2 => hn k (by omega) (by omega))
    have e2 : a + 1 + m = a + (m + 1) := by omega
    rw [e2] at ih
    rw [e] at h0
    rw [e, par_miss h0, ih, List.take_succ_cons, List.append_assoc] <;> rfl
theorem drop_two (L : List Nat) (a b : Nat) : (L.drop a).drop b = L.drop (a + b) := by
  first
    | rw [List.drop_drop]
    | rw [List.drop_drop, Nat.add_comm]
theorem free_of {s : Nat} {S p q : List Nat} (h : s ∉ p) : ∀ i, i < p.length → pre (s :: S) ((p ++ q).drop i) = false := fun i hi => by
  have hlt : i < (p ++ q).length := by rw [List.length_append]; omega
  have e : (p ++ q).drop i = (p ++ q)[i] :: (p ++ q).drop (i + 1) := List.drop_eq_getElem_cons hlt
  rw [e]
  refine pre_of_head _ _ fun z => h ?_
  have e1 : (p ++ q)[i] = p[i] := List.getElem_append_left hi
  rw [← z, e1]
  exact List.getElem_mem hi
end TL
end 
namespace L2
open PySem PySem.Spec PyProof.Rows
section
variable {X : Cx} {pins : List (Addr × Obj)} {σ : St} {H : Hp} {s : Shared} {Q : VK}
end
section
variable {X : Cx}
theorem mt1 {id : String} {g : Str → Str → V} (rule : ∀ (a b : Str) (t u : Tok) (s : Shared) (Q : Value → Shared → Prop), (∀ (v : Value) (k : Nat), RelV (g a b) v → Q v { s with toks := k }) →
    wpAny (model X.prog X.w) X.A (call (.builtin id) [.str a t, .str b u]) Q X.xe s) : MtR X id (fun x xs H Q => ∃ a b, x = .str a ∧ xs = [.str b] ∧ Q (g a b) H) := by
  intro pins s σ H x xs v us Q I rx rs h
  obtain ⟨a, b, rfl, rfl, h⟩ := h
  obtain ⟨t, rfl⟩ := rx
  cases rs with
  | cons r1 rs =>
    cases rs
    obtain ⟨u, rfl⟩ := r1
    exact rule a b t u s _ fun v k r => ⟨g a b, H, I.tok k, r, h⟩
end
section
variable {X : Cx} {o e : Expr} {to te : TE}
end
end L2
namespace L2
open PySem PySem.Spec PyProof.Rows
section
variable {X : Cx}
end
theorem IsPart.raw {v : Value} {o : Option Int} (p : IsPart v o) : ∃ l : Option (Int × Tok), v = partValue l ∧ l.map (·.1) = o := by
  cases p with
  | none => exact ⟨none, rfl, rfl⟩
  | int i t => exact ⟨some (i, t), rfl, rfl⟩
def clipS (n d : Nat) : Option Int → Int
  | none => (d : Int)
  | some i => max 0 (min (if i < 0 then i + (n : Int) else i) (n : Int))
theorem clipS_eq (n d : Nat) (o : Option Int) : clipS n d o = ((HT.sIx n d o : Nat) : Int) := by
  cases o with
  | none => rfl
  | some v =>
    show max (0 : Int) (min (if v < 0 then v + (n : Int) else v) (n : Int)) = (((if v < 0 then (v + (n : Int)).toNat else min v.toNat n) : Nat) : Int)
    by_cases hv : v < 0
    · simp only [if_pos hv]
      omega
    · simp only [if_neg hv]
      omega
theorem sidx_clip (a b : Option Int) (n : Nat) : Builtin.Str.strSliceIndices a b 1 n = sliceRange (clipS n 0 a) (clipS n n b) 1 := by
  have h1 : ((1 : Int) > 0) = True := by simp
  cases a <;> cases b <;> first
    | rfl
    | (simp only [Builtin.Str.strSliceIndices, clipS, h1, if_true]; rfl)
    | simp [Builtin.Str.strSliceIndices, clipS]
theorem sidx (a b : Option Int) (n : Nat) : Builtin.Str.strSliceIndices a b 1 n = (List.range (HT.sIx n n b - HT.sIx n 0 a)).map (fun k => HT.sIx n 0 a + k) := by
  rw [sidx_clip, clipS_eq, clipS_eq]
  generalize HT.sIx n 0 a = p
  generalize HT.sIx n n b = q
  simp only [sliceRange, show ((1 : Int) > 0) = True from by simp, if_true]
  by_cases hlt : (p : Int) < q
  · have e3 : (((q : Int) - p + 1 - 1) / 1).toNat = q - p := by first | omega | (simp; done) | (simp; omega)
    simp only [hlt, if_true, e3]
    refine List.map_congr_left fun k _ => ?_
    omega
  · have : q - p = 0 := by omega
    simp [hlt, this]
def cutS (z : Str) (lo hi : Option Int) : Str :=
  ⟨((z.cps.toList.drop (HT.sIx z.length 0 lo)).take (HT.sIx z.length z.length hi - HT.sIx z.length 0 lo)).toArray⟩
theorem sliceText_cut (z : Str) (lo hi : Option Int) : PySem.StrLaws.sliceText z lo hi = cutS z lo hi := by
  have h1 : HT.sIx z.length 0 lo ≤ z.length := HT.sIx_le _ _ (Nat.zero_le _) _
  have h2 : HT.sIx z.length z.length hi ≤ z.length := HT.sIx_le _ _ (Nat.le_refl _) _
  have hp : HT.sIx z.length 0 lo ≤ max (HT.sIx z.length 0 lo) (HT.sIx z.length z.length hi) := Nat.le_max_left _ _
  have hq : max (HT.sIx z.length 0 lo) (HT.sIx z.length z.length hi) ≤ z.length := Nat.max_le.mpr ⟨h1, h2⟩
  have hd : max (HT.sIx z.length 0 lo) (HT.sIx z.length z.length hi) - HT.sIx z.length 0 lo = HT.sIx z.length z.length hi - HT.sIx z.length 0 lo := by omega
  have e : Builtin.Str.strSliceIndices lo hi 1 z.length =
      Builtin.Str.strSliceIndices (some ((HT.sIx z.length 0 lo : Nat) : Int)) (some ((max (HT.sIx z.length 0 lo) (HT.sIx z.length z.length hi) : Nat) : Int)) 1 z.length := by
    rw [PySem.StrLaws.strSliceIndices_plain hp hq, hd, sidx]
  have e2 : PySem.StrLaws.sliceText z lo hi =
      PySem.StrLaws.sliceText z (some ((HT.sIx z.length 0 lo : Nat) : Int)) (some ((max (HT.sIx z.length 0 lo) (HT.sIx z.length z.length hi) : Nat) : Int)) := by
    unfold PySem.StrLaws.sliceText
    rw [e]
  rw [e2, PySem.StrLaws.sliceText_nat z hp hq, hd]
  rfl
theorem cutS_length (z : Str) (lo hi : Option Int) : (cutS z lo hi).length ≤ z.length := by
  show (((z.cps.toList.drop (HT.sIx z.length 0 lo)).take (HT.sIx z.length z.length hi - HT.sIx z.length 0 lo)).toArray).size ≤ z.cps.size
  rw [List.size_toArray, List.length_take, List.length_drop, Array.length_toList]
  omega
def rSlS : V → Option Int → Option Int → Hp → VK → Prop := fun x lo hi H Q => ∃ z, x = .str z ∧ z.length ≤ sizeLine ∧ Q (.str (cutS z lo hi)) H
theorem sl_str {X : Cx} : SlR X rSlS := by
  intro pins s σ H x v vl vu lo hi sl Q I rx hs pl pu h
  obtain ⟨z, rfl, hz, q⟩ := h
  obtain ⟨t, rfl⟩ := rx
  obtain ⟨os, hos, hcs, hds⟩ := hs
  obtain ⟨l, rfl, rfl⟩ := IsPart.raw pl
  obtain ⟨u, rfl, rfl⟩ := IsPart.raw pu
  refine ⟨"str", _, F.slot_str_getitem.lookup, typeIs_str _ _ _, ?_⟩
  refine wpAny_getItem_str_slice (l := l) (u := u) (st := none) ⟨os, hos, hcs, hds⟩ rfl ?_
  have hl : (PySem.StrLaws.sliceText z (l.map (·.1)) (u.map (·.1))).length ≤ sizeLine := by
    rw [sliceText_cut]
    exact Nat.le_trans (cutS_length z _ _) hz
  rw [← sliceText_cut] at q
  unfold PySem.StrLaws.sliceText at q hl
  show Made.post (if ((1 : Int) == 1 && (Builtin.Str.strSliceIndices (l.map (·.1)) (u.map (·.1)) 1 z.length).length == z.length) = true then Made.val (.str z t)
    else Made.str ⟨((Builtin.Str.strSliceIndices (l.map (·.1)) (u.map (·.1)) 1 z.length).filterMap (z.cps[·]?)).toArray⟩) (EP X pins σ Q) s
  by_cases c : ((1 : Int) == 1 && (Builtin.Str.strSliceIndices (l.map (·.1)) (u.map (·.1)) 1 z.length).length == z.length) = true
  · rw [if_pos c] at q ⊢
    exact ⟨.str z, H, I, ⟨t, rfl⟩, q⟩
  · rw [if_neg c] at q hl ⊢
    exact ⟨hl, .str _, H, I.tok _, ⟨_, rfl⟩, q⟩
end L2
namespace Att
open PySem PySem.W PySem.Calls PyProof.Rows
theorem ints_of_wellAll {P : Params} {h : Heap} : ∀ (ns : List Int) (vs : List Value), WellAll P h vs (ns.map WData.int) → IntsAre vs ns := by
  intro ns
  induction ns with
  | nil =>
    intro vs w
    rw [List.map_nil] at w
    cases w
    exact .nil
  | cons n ns ih =>
    intro vs w
    rw [List.map_cons] at w
    cases w with
    | cons a b =>
      cases a
      exact .cons _ _ (ih _ b)
theorem script_of {l : OpenLaw} {n : Nat} (hn : l.most = some n) {P : Params} {h : Heap} {args : List WData} {vals : List Value}
    (hpre : l.row.toRowW.claim.pre args = true) (hwl : WellAll P h vals args) :
    ∃ a vs ns, vals = [Value.ref a] ∧ args = [WData.list (ns.map WData.int)] ∧ h.get? a = some { cls := .type "list", data := .seq vs.toArray } ∧ IntsAre vs ns ∧ ns.length ≤ n := by
  have hsh : WShape.hasAll [] args [.list .int] = true := (pre_splitW hpre).1
  have hc : l.pre.holds [] { args := args } = true := (pre_splitW hpre).2
  obtain ⟨d, r, rfl, h1, h2⟩ := hasAllW_cons hsh
  obtain rfl := hasAllW_nil h2
  obtain ⟨xs, rfl, h3⟩ := hasW_list h1
  obtain ⟨ns, rfl⟩ := items_int h3
  have hlen : ns.length ≤ n := by
    unfold OpenLaw.pre at hc
    have h4 : (WTm.not (.lt (.lit (.int (n : Int))) (.len (.arg 0)))).holds [] { args := [.list (ns.map .int)] } = true := by
      have h4 := (holds_andW hc).1
      rw [hn] at h4
      exact h4
    have h5 := condW_of h4 (w_not (w_lt w_lit (w_len_list (w_arg rfl))))
    rw [List.length_map] at h5
    refine Nat.le_of_not_lt fun q => ?_
    have q' : (n : Int) < ((ns.length : Nat) : Int) := by omega
    first
      | (rw [decide_eq_true q'] at h5; exact absurd h5 (by decide))
      | (simp at h5; omega)
  cases hwl with
  | cons w1 w2 =>
    cases w2
    cases w1 with
    | list ho hall => exact ⟨_, _, ns, rfl, rfl, ho, ints_of_wellAll ns _ hall, hlen⟩
theorem post_true (l : OpenLaw) (args : List WData) : l.row.toRowW.claim.post args (.bool true) args = true :=
  postW_of (r := l.row.toRowW) (X := (true == true))
    (show WShape.has [] (.bool true) .bool = true by first | rfl | decide | simp [WShape.has, WShape.arms, WShape.armsAll])
    (show (WTm.eq .res (.lit (.bool true))).value [] { args := args, res := some (.bool true), after := args } = some (.bool (true == true)) from w_eq_bool (w_res rfl) w_lit) rfl
theorem attach_call {l : OpenLaw} {n : Nat} {q : Program} {loose : List Str} {XP : (Str → Option Value) → Heap → Prop} {YP : World → Heap → Prop} {d : DefRec}
    (hn : l.most = some n) (hdf : d.params.defaults = [])
    (call : ∀ (w : World) (s₀ s₁ : Shared) (mg mb : Str → Option Value) (fa : Addr) (o : Obj) (pm cd doc : Value) (a : Addr) (vs : List Value) (ns : List Int),
      Ground q loose [] XP w s₀ mg mb s₁.heap → YP w s₁.heap →
      s₁.heap.get? fa = some o → o.data = .func (docDef d.name d.params d.body d.scope pm cd doc) → s₁.heap.CodeRec cd d.name → mg d.name = some (.ref fa) →
      s₁.heap.get? a = some { cls := .type "list", data := .seq vs.toArray } → IntsAre vs ns → ns.length ≤ n → s₁.gens = #[] →
      codeAny (model l.prog w) callerA (.call (.ref fa) ⟨[.ref a], []⟩) (fun r s' => r = .ok (.ret (.bool true)) ∧ OldK s₁.heap s'.heap ∧ s'.os = s₁.os ∧ AllBare s'.gens) s₁) :
    WalkO q loose XP YP l.row.toRowW d [] (fun f vs => PySem.call f vs) := by
  intro w s₀ s₁ mg mb G Y fa o pm cd doc dV kV ho hd hcd hD hmg hg args vals as hpre hlay hrd hwl hlo
  obtain rfl : dV = .none := Dflts.none hD hdf
  obtain rfl : kV = .none := Dflts.noKw hD
  obtain ⟨a, vs, ns, rfl, rfl, hobj, hints, hlen⟩ := script_of hn hpre hwl
  refine enter_call (codeAny_mono (call w s₀ s₁ mg mb fa o pm cd doc a vs ns G Y ho (fd_plain hd) hcd hmg hobj hints hlen hg) fun r s' hq => ?_)
  obtain ⟨rfl, h2, h3, h4⟩ := hq
  exact ⟨.inl ⟨.bool true, .bool true, [], rfl, fun _ => rfl, .bool true, post_true l _, fun _ => ⟨List.Pairwise.nil, fun _ hm => (nomatch hm)⟩⟩, h2, h3, h4⟩
section
variable {prog : Program} {w : World} {A : Around} {E : Value → Shared → Prop} {s : Shared} {K : Frag}
end
end Att
namespace L2
open PySem PySem.Spec PyProof.Rows
theorem vals_ints : ∀ {vs : List Value} {ns : List Int}, IntsAre vs ns → Vals (ns.map V.int) vs
  | _, _, .nil => .nil
  | _, _, .cons n t h => .cons ⟨t, rfl⟩ (vals_ints h)
def Only (H : Hp) : Prop := ∀ b, H b = none ∨ ∃ o xs, H b = some (.frz o (.lst xs))
theorem law_call {P : Program} {w : World} {K : PySem.W.Frag} {mg mb : Str → Option Value} {CX : CXT} {k : Nat} {fa a : Addr} {fd : FuncData} {x : Str} {sp : Sp} {s₁ : Shared} {vs : List Value} {ns : List Int}
    (KX : K.In s₁.heap) (hns : s₁.heap.Ns mainGlobals mg) (hb : s₁.heap.Ns builtinsNs mb) (hbb : ∀ x : Str, x ≠ "__name__" → mb x = bootBuiltins x) (hlim : s₁.heap.NoLimit) (hg : s₁.gens = #[])
    (ha : s₁.heap.get? a = some { cls := .type "list", data := .seq vs.toArray }) (hi : IntsAre vs ns) (hl : ns.length ≤ sizeLine) (hr : Room k callerA)
    (F : ∀ base : Heap, K.In base → base.Ns mainGlobals mg → FnOk P w K mg base CX k fa fd [x] sp) (hbind : ∀ (s : Shared) (u : Value), BindsTo s fd ⟨[u], []⟩ [(x, u)])
    (hsp : ∀ H : Hp, Only H → SqL K H a (ns.map V.int) → sp [.ref a] H (fun v _ => v = .bl true) fun _ _ _ => False)
    (hCX : ∀ H e s', CX [] H s₁ (fun _ _ _ => False) e s' → False) :
    codeAny (model P w) callerA (.call (.ref fa) ⟨[.ref a], []⟩) (fun r s' => r = .ok (.ret (.bool true)) ∧ OldK s₁.heap s'.heap ∧ s'.os = s₁.os ∧ AllBare s'.gens) s₁ := by
  have rv := vals_ints hi
  have lenV := hi.length
  -- from an abstract heap in which nothing but the script may be tracked
  have core : ∀ H : Hp, Only H → SqL K H a (ns.map V.int) → HOk P w H s₁.heap → (∀ b, H b ≠ none → b = a) → (H a ≠ none → K.lookup a = none) →
      codeAny (model P w) callerA (.call (.ref fa) ⟨[.ref a], []⟩) (fun r s' => r = .ok (.ret (.bool true)) ∧ OldK s₁.heap s'.heap ∧ s'.os = s₁.os ∧ AllBare s'.gens) s₁ := by
    intro H hO hS hok hA hK
    have base_of : ∀ {b : Addr} {o : Obj}, s₁.heap.get? b = some o → H b = none → (hidT s₁.heap H).get? b = some o := fun e n => hidT_get e n
    have noA : ∀ {b : Addr} {o : Obj} {es : Array DictEntry} {ep : Nat}, s₁.heap.get? b = some o → o.data = .dict es ep → H b = none := fun {b o es ep} e d => by
      cases q : H b with
      | none => rfl
      | some u =>
        have e' : b = a := hA b (by rw [q]; simp)
        subst e'
        rw [ha] at e; cases e
        have d' : Data.seq vs.toArray _ = Data.dict es ep := d
        cases d'
    have nsK : ∀ {b : Addr} {m : Str → Option Value}, s₁.heap.Ns b m → (hidT s₁.heap H).Ns b m := fun {b m} ⟨o, es, ep, e, d, r⟩ => ⟨o, es, ep, base_of e (noA e d), d, r⟩
    have hKb : K.In (hidT s₁.heap H) := fun b o e => base_of (KX b o e) (by
      cases q : H b with
      | none => rfl
      | some u =>
        have e' : b = a := hA b (by rw [q]; simp)
        subst e'
        rw [hK (by rw [q]; simp)] at e; cases e)
    have hM : Mod K mg (hidT s₁.heap H) := ⟨hKb, nsK hns, ⟨mb, nsK hb, hbb⟩, let ⟨mc, h1, h2⟩ := hlim; ⟨mc, nsK h1, h2⟩⟩
    have e0 : Env0 P w K mg (hidT s₁.heap H) callerA [] s₁ H := ⟨rfl, hM, fun b o e => of_hidT e, Nat.le_of_eq (hidT_size _ _), trivial, fun b hb => absurd (show b ∈ ([] : List Addr) from hb) (by simp), hok, .of_eq hg⟩
    refine codeAny_mono ((F _ hKb (nsK hns)).run callerA [] s₁ H ⟨[.ref a], []⟩ [.ref a] [.ref a] _ _ hr e0 (hbind s₁ (.ref a)) (.cons rfl .nil) (hsp H hO hS)) fun r s' h => ?_
    cases r with
    | error e => exact (hCX H e s' h).elim
    | ok fl =>
      cases fl with
      | next => exact False.elim h
      | brk => exact False.elim h
      | cont => exact False.elim h
      | ret u =>
        obtain ⟨v, H', os, bare, un, hok', r', q⟩ := h
        have q' : v = .bl true := q
        subst q'
        obtain rfl : u = Value.bool true := r'
        refine ⟨rfl, OldK.of_keep fun b o e => ?_, os, bare⟩
        cases q : H b with
        | none => exact un.keep b o e q (by intro z; exact absurd (show b ∈ ([] : List Addr) from z) (by simp)) (by simp)
        | some u =>
          rcases hO b with z | ⟨ob, xs, z⟩
          · rw [q] at z; cases z
          · have z2 := un.frzs b ob _ z
            obtain ⟨e1, _⟩ := hok b _ z
            obtain ⟨e2, _⟩ := hok' b _ z2
            rw [e] at e1; cases e1
            exact e2
  cases hk : K.lookup a with
  | some o =>
    -- the script is one of the module's own objects
    have e := KX a o hk
    rw [ha] at e
    cases e
    refine core (fun _ => none) (fun _ => .inl rfl) (.inr ⟨_, vs.toArray, _, hk, rfl, rfl, rfl, by rw [List.size_toArray, lenV]; exact hl, by simpa using rv⟩) (fun b u z => by have z' : (none : Option HO) = some u := z; cases z') (fun b z => absurd rfl z) fun z => absurd rfl z
  | none =>
    refine core (fun b => if b = a then some (.frz { cls := .type "list", data := .seq vs.toArray } (.lst (ns.map V.int))) else none) (fun b => ?_) (.inl (.inr ⟨{ cls := .type "list", data := .seq vs.toArray }, if_pos rfl⟩)) (fun b u z => ?_) (fun b z => ?_) fun _ => hk
    · by_cases hb : b = a
      · exact .inr ⟨_, _, if_pos hb⟩
      · exact .inl (if_neg hb)
    · by_cases hb : b = a
      · have z' := (if_pos hb).symm.trans z
        cases z'
        subst hb
        exact ⟨ha, by rw [List.length_map]; exact hl, vs, _, rv, ha⟩
      · have z' := (if_neg hb).symm.trans z
        cases z'
    · by_cases hb : b = a
      · exact hb
      · exact absurd (if_neg hb) z
end L2
namespace L2
open PySem PySem.Spec PyProof.Rows
abbrev KOf {K : PySem.W.Frag} {h : Heap} (_ : K.In h) : PySem.W.Frag := K
theorem walk_of {l : PySem.W.OpenLaw} {n k : Nat} {q : Program} {loose : List Str} {XP : (Str → Option Value) → Heap → Prop} {YP : World → Heap → Prop} {d : DefRec} {K : Params → PySem.W.Frag} {CX : World → CXT} {sp : World → Sp} {x : Str}
    (hn : l.most = some n) (hn2 : n ≤ sizeLine) (hdf : d.params.defaults = []) (hr : Room k callerA)
    (hY : ∀ (w : World) (h : Heap), YP w h → (K w.params).In h)
    (F : ∀ (w : World) (mg : Str → Option Value) (fa : Addr) (h : Heap), (K w.params).In h → h.Ns mainGlobals mg → mg d.name = some (.ref fa) →
      ∃ fd : FuncData, (∀ (s : Shared) (u : Value), BindsTo s fd ⟨[u], []⟩ [(x, u)]) ∧
        ∀ base : Heap, (K w.params).In base → base.Ns mainGlobals mg → FnOk l.prog w (K w.params) mg base (CX w) k fa fd [x] (sp w))
    (hsp : ∀ (w : World) (H : Hp) (a : Addr) (ns : List Int), ns.length ≤ n → Only H → SqL (K w.params) H a (ns.map V.int) → sp w [.ref a] H (fun v _ => v = .bl true) fun _ _ _ => False)
    (hCX : ∀ (w : World) (H : Hp) (s : Shared) (e : Value) (s' : Shared), CX w [] H s (fun _ _ _ => False) e s' → False) :
    PySem.W.WalkO q loose XP YP l.row.toRowW d [] (fun f vs => PySem.call f vs) := by
  refine Att.attach_call hn hdf fun w s₀ s₁ mg mb fa o pm cd doc a vs ns G Y ho hd hcd hmg hobj hints hlen hg => ?_
  have KX := hY w _ Y
  obtain ⟨fd, hb, hF⟩ := F w mg fa _ KX G.T.g hmg
  exact law_call KX G.T.g G.T.b G.T.builtins G.T.nolimit hg hobj hints (Nat.le_trans hlen hn2) hr hF hb (fun H hO hS => hsp w H a ns hlen hO hS) fun H e s' => hCX w H s₁ e s'
end L2
/- THE LAST THEOREM (shape; LID, My.* are yours):
   My.Adr: a structure of the addresses that your layer names (classes, functions); My.Txt K t: a structure (Prop) of the equations over K;
   My.txt_mk : {K} {implicit addresses ..} (e1 : nsIn K mainGlobals "law" = some (some (.ref f))) (e2 : K.lookup f = some ⟨oc, od, .func (fnOf "law" "law" params body scope dV kV doc pm an cdv ct), sl⟩) (e3 : codeIn K cdv "law" = true) .. : ∃ t, My.Txt K t
set_option maxRecDepth 100000 in
set_option maxHeartbeats 0 in
theorem PySem.Challenge.cw_LID_holds : PySem.Challenge.rw_LID.Holds := by
  w_on; o_law; k_head; (case hw => w_witness2)
  k_fill
  refine L2.walk_of (l := PySem.Challenge.rw_LID) (n := 63) (k := 40) (x := "script") (CX := fun w => ..) (sp := fun _ => My.sp_law) rfl (by decide) rfl ⟨rfl, by decide, by decide⟩ (fun w h Y => PySem.W.kIn_of Y) ?F ?S ?C
  case F =>
    intro w mg fa h KX G hmg
    have T : ∃ t, My.Txt (L2.KOf KX) t := by
      dsimp only [L2.KOf]                          -- K must stand as «<heap const> w.params» for k_is
      refine' My.txt_mk ?e1 ?e2 ?e3 ..
      (case e1 => PySem.W.k_is)                    -- in the order: a name -> its address -> its object -> its parts
      (case e2 => PySem.W.k_is)
      ..
    obtain ⟨t, T⟩ := T
    have e0 := hmg.symm.trans (PySem.W.mg_of KX G T.law)
    cases e0                                       -- fa is the law's own address
    exact ⟨_, fun s u => .of_eq rfl, fun base kb nb => My.law_fn T kb nb⟩     -- if «.of_eq rfl» comes too early: refine' ⟨_, ?b, fun base kb nb => My.law_fn T kb nb⟩; exact fun s u => .of_eq rfl
  case S => exact fun w H a ns hl hO hS => ..
  case C => exact ..
(the tactic k_is has no namespace: write k_is) -/
namespace L2
open PySem PySem.Spec PyProof.Rows
def defArgs (s : Stmt) : Arguments := match s with
  | .FunctionDef _ a _ _ _ _ _ _ _ _ => a
  | _ => { posonlyargs := [], args := [], vararg := none, kwonlyargs := [], kw_defaults := [], kwarg := none, defaults := [] }
def defBody (s : Stmt) : List Stmt := match s with
  | .FunctionDef _ _ b _ _ _ _ _ _ _ => b
  | _ => []
def defScope (s : Stmt) : Scope := match s with
  | .FunctionDef _ _ _ _ _ _ sc _ _ _ => sc
  | _ => { kind := .function, names := [], isGenerator := false, isCoroutine := false }
abbrev CX0 : CXT := fun _ _ _ _ _ _ => False
abbrev E0 : XK := fun _ _ _ => False
theorem pass0 {X : Cx} : Passes CX0 X E0 := fun _ _ _ _ _ _ _ h => h.elim
structure Fun (K : PySem.W.Frag) (x qual : Str) (st : Stmt) (f : Addr) (fd : FuncData) : Prop where
  ex : ∃ (oc : Value) (od : Option Addr) (kV doc pm : Value) (an : Option Addr) (cdv ct : Value) (osl : Array (Option Value)),
    fd = PySem.W.fnOf x qual (defArgs st) (defBody st) (defScope st) .none kV doc pm an cdv ct ∧ K.lookup f = some ⟨oc, od, .func fd, osl⟩ ∧ PySem.W.codeIn K cdv qual = true
  kp : PySem.W.keepIn K (.ref f) = true
section
variable {P : Program} {w : World} {K : PySem.W.Frag} {mg : Str → Option Value} {base : Heap}
theorem Fun.ok {x qual : Str} {st : Stmt} {f : Addr} {fd : FuncData} {N ps : List Str} {k : Nat} {sp : Sp} (F : Fun K x qual st f fd) (S : FnScope N ps (defScope st)) (len : ∀ vs H Q E, sp vs H Q E → vs.length = ps.length)
    (hbody : ∀ (cdv : Value) (A : Around) (outer : List Env) (s : Shared) (H : Hp) (vs : List V) (Q : VK) (E : XK), Room k (A.deeper (envOfC qual (defScope st) s.heap.objs.size f cdv)) → sp vs H Q E →
      ∃ t, PSs (cxOf CX0 P w K mg base N qual (defScope st) f cdv A outer s H E).nox (defBody st) t ∧ t { nx := fun _ H' => Q .non H', rt := Q } (start N vs) H) : FnOk P w K mg base CX0 (k + 1) f fd ps sp := by
  obtain ⟨oc, od, kV, doc, pm, an, cdv, ct, osl, rfl, lk, hcd⟩ := F.ex
  refine fn_of lk hcd S len fun A outer s H vs Q E hr hsp => ?_
  obtain ⟨t, h, q⟩ := hbody cdv A outer s H vs Q E hr hsp
  exact ⟨t, h.nox, q⟩
theorem Fun.binds {x qual : Str} {st : Stmt} {f : Addr} {fd : FuncData} {ps : List Str} (F : Fun K x qual st f fd)
    (h : ∀ (kV doc pm : Value) (an : Option Addr) (cdv ct : Value) (us : List Value), us.length = ps.length → bindArgs (PySem.W.fnOf x qual (defArgs st) (defBody st) (defScope st) .none kV doc pm an cdv ct) ⟨us, []⟩ = pure (ps.zip us)) : Binds K fd ps [] := by
  obtain ⟨oc, od, kV, doc, pm, an, cdv, ct, osl, rfl, lk, hcd⟩ := F.ex
  exact .all (h kV doc pm an cdv ct)
theorem fun_mk {x qual : Str} {st : Stmt} {f : Addr} {oc : Value} {od an : Option Addr} {osl : Array (Option Value)} {kV doc pm cdv ct : Value} (l : K.lookup f = some ⟨oc, od, .func (PySem.W.fnOf x qual (defArgs st) (defBody st) (defScope st) .none kV doc pm an cdv ct), osl⟩)
    (c : PySem.W.codeIn K cdv qual = true) (k : PySem.W.keepIn K (.ref f) = true) : Fun K x qual st f (PySem.W.fnOf x qual (defArgs st) (defBody st) (defScope st) .none kV doc pm an cdv ct) := ⟨⟨oc, od, kV, doc, pm, an, cdv, ct, osl, rfl, l, c⟩, k⟩
end
theorem hu_of {A : Around} {k : Nat} (hr : Room k A) : A.units + 1 < cLine := Nat.lt_of_le_of_lt (Nat.add_le_add_left (by decide : 1 ≤ 64) _) hr.units
theorem small1000 {n : Nat} (h : n ≤ 1000) : n < sizeLine := Nat.lt_of_le_of_lt h (by decide)
section
variable {X : Cx}
theorem pv (i : Nat) {x : Str} {pos : Pos} (hN : X.N[i]? = some x := by rfl) (hv : Vis X.env.scope x := by first | exact Or.inl rfl | exact Or.inr (Or.inl rfl) | exact Or.inr (Or.inr rfl)) (hd : (x == ("__debug__" : Str)) = false := by decide)
    (hcd : (x == ("__classdict__" : Str)) = false := by decide) : PE X (.Name x pos) (tVar i) := pe_var hN hv hd hcd
end
theorem iteF {A B : Prop} (h : B) : if false = true then A else B := by
  rw [if_neg Bool.false_ne_true]
  exact h
theorem iteT {A B : Prop} (h : A) : if true = true then A else B := by
  rw [if_pos rfl]
  exact h
def Same (H H' : Hp) : Prop := ∀ b o, H b = some o → H' b = some o
theorem Same.refl (H : Hp) : Same H H := fun _ _ h => h
theorem Same.trans {H H1 H2 : Hp} (a : Same H H1) (b : Same H1 H2) : Same H H2 := fun c o h => b c o (a c o h)
theorem Same.free {H H' : Hp} (e : Same H H') {l : Addr} (h : H' l = Option.none) : H l = Option.none := by
  cases q : H l with
  | none => rfl
  | some o =>
    rw [e l o q] at h
    cases h
theorem Same.seq {K : PySem.W.Frag} {H H' : Hp} {a : Addr} {xs : List V} (e : Same H H') (h : SqL K H a xs) : SqL K H' a xs := by
  rcases h with (h | ⟨o, h⟩) | h
  · exact .inl (.inl (e _ _ h))
  · exact .inl (.inr ⟨o, e _ _ h⟩)
  · exact .inr h
section
variable {κ : Type} [DecidableEq κ]
end
theorem Same.made {H H1 : Hp} {x dx C : Addr} (nx : H x = Option.none) (nd : H dx = Option.none) (k : ∀ b o, (upd (upd H dx (.own x)) x (.ins C dx [])) b = some o → b ≠ x → H1 b = some o) : Same H H1 := fun b o e =>
  k b o (by rw [upd_ne (ne_of_none e nx), upd_ne (ne_of_none e nd)]; exact e) (ne_of_none e nx)
end L2
set_option linter.all false
set_option Elab.async false
set_option maxRecDepth 100000
set_option maxHeartbeats 1000000
namespace PySem
theorem Runs.gens_le {M : Model} {Γ : Ctx} {p : Pos} {t : Sem Fin} {fs : List Frame} {s s' : Shared} {e : End} (h : Runs M Γ p t fs s e s') : s.gens.size ≤ s'.gens.size := by
  induction h <;> (try simp only [Shared.setGen, Array.size_push, Array.size_setIfInBounds] at *) <;> omega
theorem Wakes.gens_le {M : Model} {Γ : Ctx} {p : Pos} {g : Nat} {r : Resume} {s s' : Shared} {res : GenResult} (h : Wakes M Γ p g r s res s') : s.gens.size ≤ s'.gens.size := by
  have sg : ∀ (s : Shared) g x, (s.setGen g x).gens.size = s.gens.size := fun s g x => by simp [Shared.setGen]
  unfold Wakes at h
  split at h
  · exact h.elim
  · split at h
    · obtain ⟨e₁, s₁, hr, _, _, rfl⟩ := h; have := Runs.gens_le hr; rw [sg] at *; exact this
    · rw [h.2]; exact Nat.le_refl _
    · rw [h.2, sg]; exact Nat.le_refl _
  · obtain ⟨e₁, s₁, hr, _, _, rfl⟩ := h; have := Runs.gens_le hr; rw [sg] at *; exact this
  · rw [h.2]; exact Nat.le_refl _
  · rw [h.2]; exact Nat.le_refl _
theorem Sem.wp_gens {α : Type} (M : Model) (Γ : Ctx) (n : Nat) (t : Sem α) : ∀ (Q : α → Pos → Shared → Prop) (E : Value → Pos → Shared → Prop) (p : Pos) (s : Shared), n ≤ s.gens.size → Sem.wp M Γ t Q E p s →
    Sem.wp M Γ t (fun a p' s' => n ≤ s'.gens.size ∧ Q a p' s') (fun e p' s' => n ≤ s'.gens.size ∧ E e p' s') p s := by
  induction t with
  | pure a => intro Q E p s hn h; exact ⟨hn, h⟩
  | raise e => intro Q E p s hn h; exact ⟨hn, h⟩
  | unsupported _ => intro Q E p s _ h; exact h
  | finish _ => intro Q E p s _ h; exact h
  | rule _ k ih => intro Q E p s hn h; exact ih () Q E p s hn h
  | «at» p' k ih => intro Q E p s hn h; exact ih () Q E p' s hn h
  | load a _ k ih => intro Q E p s hn h; obtain ⟨o, ho, h⟩ := h; exact ⟨o, ho, ih o Q E p s hn h⟩
  | update a _ f k ih => intro Q E p s hn h; exact ⟨h.1, ih () Q E p _ hn h.2⟩
  | loadIfAlive a k ih => intro Q E p s hn h; exact ih _ Q E p s hn h
  | point _ k ih => intro Q E p s hn h; exact ih () Q E p s hn h
  | register _ _ => intro Q E p s _ h; exact h
  | alloc o k ih => intro Q E p s hn h; exact ih _ Q E p _ hn h
  | fresh k ih => intro Q E p s hn h; exact ih _ Q E p _ hn h
  | ask k ih => intro Q E p s hn h; exact ih _ Q E p s hn h
  | choose src m k ih => intro Q E p s hn h; exact ⟨h.1, ih _ Q E p _ hn h.2⟩
  | os q _ k ih => intro Q E p s hn h; exact ih _ Q E p _ hn h
  | call c hd _ _ k ih => intro Q E p s hn h; obtain ⟨r, s', hr, h⟩ := h; exact ⟨r, s', hr, ih r Q E p s' (Nat.le_trans hn (Runs.gens_le hr)) h⟩
  | handled own k ih => intro Q E p s hn h; exact ih _ Q E p s hn h
  | genState g k ih => intro Q E p s hn h; obtain ⟨st, hs, h⟩ := h; exact ⟨st, hs, ih _ Q E p s hn h⟩
  | newGen c k ih => intro Q E p s hn h; exact ih _ Q E p _ (by simp only [Array.size_push]; omega) h
  | resume g r _ k ih => intro Q E p s hn h; obtain ⟨res, s', hw, h⟩ := h; exact ⟨res, s', hw, ih res Q E p s' (Nat.le_trans hn hw.gens_le) h⟩
  | yield _ _ _ _ => intro Q E p s _ h; exact h
  | stack k ih => intro Q E p s hn h; exact ih _ Q E p s hn h
  | fork _ _ => intro Q E p s _ h; exact h
  | thread k ih => intro Q E p s hn h; exact ih _ Q E p s hn h
  | await _ _ _ _ _ => intro Q E p s _ h; exact h
theorem wpAny_gens_of {α : Type} {M : Model} {A : Around} {s : Shared} {t : Sem α} {Q : α → Shared → Prop} {E : Value → Shared → Prop} {n : Nat} (hn : n ≤ s.gens.size) (h : wpAny M A t Q E s) :
    wpAny M A t (fun a s' => n ≤ s'.gens.size ∧ Q a s') (fun e s' => n ≤ s'.gens.size ∧ E e s') s :=
  fun Γ p hΓ => Sem.wp_gens M Γ n t _ _ p s hn (h Γ p hΓ)
theorem wpAny_with_gens {α : Type} {M : Model} {A : Around} {s : Shared} {t : Sem α} {Q : α → Shared → Prop} {E : Value → Shared → Prop} {n : Nat} (hn : n ≤ s.gens.size)
    (h : wpAny M A t (fun a s' => n ≤ s'.gens.size → Q a s') (fun e s' => n ≤ s'.gens.size → E e s') s) : wpAny M A t Q E s :=
  wpAny_mono (wpAny_gens_of hn h) (fun _ _ x => x.2 x.1) (fun _ _ x => x.2 x.1)
theorem setGen_at {s : Shared} {g : Nat} {x : GenState} (h : g < s.gens.size) : (s.setGen g x).gens[g]? = some x := by simp [Shared.setGen, h]
theorem setGen_size {s : Shared} {g : Nat} {x : GenState} : (s.setGen g x).gens.size = s.gens.size := by simp [Shared.setGen]
end PySem
namespace L2
open PySem PySem.Spec PyProof.Rows
structure WalkX (prog : Program) (w : World) (A : Around) (I : Addr) (n : Nat) (pr : List Addr) (Tie : List V → Shared → Prop) (SH : List V → Shared → Prop) (SE : List V → Shared → Prop) (GS : Nat → Shared → Prop) : Prop where
  typ : ∀ xs s, SH xs s → s.TypeIs (.ref I) "generator"
  out : ∀ p ∈ pr, p ≠ I
  turn : ∀ xs (s : Shared) p h' tk, SH xs s → p ∈ pr → (∀ b o, b ≠ p → s.heap.get? b = some o → h'.get? b = some o) → (∃ o, h'.get? p = some o ∧ ∀ v, o.data ≠ .cell v) → SH xs { s with heap := h', toks := tk }
  gst : ∀ j (s s' : Shared), GS j s → s'.gens = s.gens → GS j s'
  fin : ∀ xs s, SH xs s → xs.length = n → SE xs s
  item : ∀ j (s : Shared) (Q : Option Value → Shared → Prop) (E : Value → Shared → Prop), j < n → (∃ xs, xs.length = j ∧ SH xs s ∧ Tie xs s) → GS j s →
    (∀ v s' xs x, xs.length = j → RelV x v → SH (xs ++ [x]) s' → Tie xs s' → (∀ p ∈ pr, ∀ o, s.heap.get? p = some o → s'.heap.get? p = some o) → GS (j + 1) s' → Q (some v) s') → wpAny (model prog w) A (pyNext (.ref I)) Q E s
  done : ∀ (s : Shared) (Q : Option Value → Shared → Prop) (E : Value → Shared → Prop), (∃ xs, xs.length = n ∧ SH xs s ∧ Tie xs s) → GS n s →
    (∀ s' xs, xs.length = n → SE xs s' → Tie xs s' → (∀ p ∈ pr, ∀ o, s.heap.get? p = some o → s'.heap.get? p = some o) → Q none s') → wpAny (model prog w) A (pyNext (.ref I)) Q E s
  self : ∀ xs (s : Shared) (Q : Value → Shared → Prop) (E : Value → Shared → Prop), SH xs s → Q (.ref I) s → wpAny (model prog w) A (pyIter (.ref I)) Q E s
section
variable {prog : Program} {w : World} {A : Around} {R : Result → Shared → Prop} {I : Addr} {n : Nat} {pr : List Addr} {SH SE : List V → Shared → Prop} {GS : Nat → Shared → Prop}
abbrev NoTie : List V → Shared → Prop := fun _ _ => True
def TieL (S : Addr) : List V → Shared → Prop := fun xs s => ∃ (acc : Array Value) (c : Nat), s.heap.get? S = some { cls := .type "list", dict := none, data := .seq acc c, slots := #[] } ∧ Vals xs acc.toList
theorem extend_loopX {S : Addr} (W : WalkX prog w A.in1 I n pr (TieL S) SH SE GS) (hn : n ≤ sizeLine) (hS : S ∈ pr) (res : Value) :
    ∀ (k j : Nat) (s : Shared), n - j = k → j ≤ n → (∃ xs, xs.length = j ∧ SH xs s ∧ TieL S xs s) → GS j s →
    (∀ s' xs, xs.length = n → SE xs s' → TieL S xs s' → R (.ok (.ret res)) s') →
    codeAny (model prog w) A (.builtin "list.extend.loop" ⟨[.ref S, .ref I, res], []⟩) R s := by
  intro k
  induction k with
  | zero =>
    intro j s hk hj hst hg hR
    have hin : j = n := by omega
    subst hin
    refine codeAny_builtin F.entry_extend_loop ?_
    rw [Around.under_plainId F.plain_extend_loop _]
    show wpAny _ A.in1 (pyNext (.ref I) >>= _) _ _ s
    refine wpAny_bind (W.done s _ _ hst hg fun s' xs hl se ti _ => ?_)
    exact wpAny_pure (hR s' xs hl se ti)
  | succ k ih =>
    intro j s hk hj hst hg hR
    have hlt : j < n := by omega
    refine codeAny_builtin F.entry_extend_loop ?_
    rw [Around.under_plainId F.plain_extend_loop _]
    show wpAny _ A.in1 (pyNext (.ref I) >>= _) _ _ s
    refine wpAny_bind (W.item j s _ _ hlt hst hg fun v s' xs x hl r hsh ti _ hg' => ?_)
    obtain ⟨acc, c, hS', va⟩ := ti
    have hsz : acc.size = j := by have := va.length; rw [hl] at this; simpa using this.symm
    show wpAny _ A.in1 (updateSeq S (·.push v) >>= _) _ _ _
    refine wpAny_bind ?_
    have hU := Heap.get?_update_self (h := s'.heap) (Obj.mapSeq (·.push v)) hS' rfl
    refine wpAny_updateSeq hS' rfl (wpAny_pure ⟨plainId_quiet F.plain_extend_loop _, ih (j + 1) _ (by omega) hlt ⟨xs ++ [x], by simp [hl], W.turn _ s' S _ s'.toks hsh hS (fun b o hb e => (Heap.get?_update_other _ _ (Ne.symm hb)).trans e) ⟨_, hU, fun v => by simp [Obj.mapSeq]⟩, ⟨_, _, hU, by rw [Array.toList_push]; exact va.append (.cons r .nil)⟩⟩ (W.gst _ _ _ hg' rfl) hR⟩)
      (by rw [hsz]; omega) (by show (acc.push v).size ≤ sizeLine + 1; rw [Array.size_push, hsz]; omega)
end
end L2
set_option linter.all false
set_option Elab.async false
set_option maxRecDepth 100000
set_option maxHeartbeats 1000000
namespace L2
open PySem PySem.Spec PyProof.Rows
abbrev Cx.gblk (X : Cx) (A' : Around) (s : Shared) (H : Hp) (cenv : Env) (fp : List Addr) : Cx := { X with A := A', s_0 := s, H_0 := H, env := cenv, outer := X.stack, stack := cenv :: X.stack, ex := fp, fn := fun _ => false, pn := [], xe := fun _ _ => False }
section
variable {X : Cx} {pins : List (Addr × Obj)} {σ : St} {H : Hp} {s : Shared}
theorem gblock_start {A' : Around} {scope : Scope} {own : List (Str × Nat)} {fp : List Addr} {cenv : Env} {m0 : Str → Option Value} {h' : Heap} {gs : Array GenState} {tk : Nat} (I : Inv X pins σ H s) (ok : BlkOk X.N X.env.scope scope own) (hN : X.N.Nodup)
    (hfp : ∀ b ∈ fp, FpOk X pins H b ∧ b < s.heap.objs.size) (hA : A'.frames = some (cenv :: X.stack)) (hh : A'.handled = none)
    (e1 : cenv.scope = scope) (e2 : cenv.locals = s.heap.objs.size) (e3 : cenv.cells = cloFrom X.env.cells scope.names []) (e4 : cenv.globals = mainGlobals) (e5 : cenv.builtins = builtinsNs) (e6 : cenv.frame = some cenv.locals) (hnc : ∀ y ∈ scope.names, y.2 ≠ .cell)
    (kp : ∀ b o, s.heap.get? b = some o → h'.get? b = some o) (hns : h'.Ns s.heap.objs.size m0) (hg : AllBare gs) :
    Inv (X.gblk A' s H cenv fp) [] (wipe σ (own.map (·.2))) H { s with heap := h', gens := gs, toks := tk } := by
  have hfree : ∀ y ∈ scope.names, y.2 = .free → ∃ c, X.env.cells.lookup y.1 = some c := fun y hy e => by
    rcases ok.free y hy e with k | k
    · exact I.ok.has _ (.inl k)
    · exact I.ok.has _ (.inr k)
  have cm : ∀ {y c}, (y, c) ∈ cloFrom X.env.cells scope.names [] → X.env.cells.lookup y = some c ∧ c < s.heap.objs.size := fun {y c} hm => by
    rcases cloFrom_mem hm with hm | ⟨h1, rfl⟩
    · cases hm
    · obtain ⟨c, hc⟩ := hfree _ h1 rfl
      rw [hc]
      obtain ⟨w, z⟩ := I.cell _ _ hc
      exact ⟨rfl, z.lt⟩
  have mem : ∀ {y c}, cenv.cells.lookup y = some c → X.env.cells.lookup y = some c ∧ c < s.heap.objs.size := fun {y c} e => by
    rw [e3] at e
    exact cm (PySem.mem_of_lookup e)
  have look : ∀ {y}, scope.names.lookup y = some .free → ∃ c, cenv.cells.lookup y = some c ∧ X.env.cells.lookup y = some c := fun {y} hl => by
    have hy : (y, NameKind.free) ∈ scope.names := PySem.mem_of_lookup hl
    obtain ⟨c', e'⟩ := mem_lookup (cloFrom_has (cells := X.env.cells) (acc := []) hy)
    rw [← e3] at e'
    exact ⟨c', e', (mem e').1⟩
  have nocell : ∀ {y}, cenv.kindOf y ≠ some .cell := fun {y} hk => by
    unfold Env.kindOf at hk
    rw [e1] at hk
    exact hnc _ (PySem.mem_of_lookup hk) rfl
  have kfree : ∀ {y}, cenv.kindOf y = some .free → scope.names.lookup y = some .free := fun {y} hk => by
    unfold Env.kindOf at hk
    rw [e1] at hk
    exact hk
  have okB : (X.gblk A' s H cenv fp).Ok := by
    refine ⟨I.ok.mod, by show cenv.scope.kind = _; rw [e1]; exact ok.kind, e4, e5, by show s.heap.objs.size ≤ cenv.locals; rw [e2]; exact Nat.le_refl _,
      fun y z c q1 q2 => I.ok.inj y z c (mem q1).1 (mem q2).1, fun y hy => ?_, fun y c z e => ?_, fun _ => hh, hA, .inr ⟨rfl, e6⟩, fun b hb => ⟨?_, fun y c e z => ?_⟩, I.bs, Nat.le_trans I.ok.bsz I.sz, fun b o e hb => ?_, fun b hb z => ?_, I.stack, I.stkFree⟩
    · rcases hy with hy | hy
      · exact absurd hy nocell
      · obtain ⟨c, h1, _⟩ := look (kfree hy)
        exact ⟨c, h1⟩
    · exact absurd (show false = true from z) Bool.false_ne_true
    · show b ≠ cenv.locals
      rw [e2]; exact Nat.ne_of_lt (hfp b hb).2
    · exact (hfp b hb).1.2.2.2.2.1 y c (mem e).1 z
    · rcases (hfp b hb).1.2.2.2.1 with z | z
      · exact I.ok.noex b o e z
      · exact absurd (Nat.lt_of_lt_of_le (Heap.lt_size e) (Nat.le_trans I.ok.bsz z)) (Nat.lt_irrefl _)
    · rcases List.mem_cons.mp (I.stkSub b z) with z | z
      · exact (hfp b hb).1.2.1 z
      · exact (hfp b hb).1.2.2.1 z
  refine ⟨okB, rfl, hg, Un.kept kp, ⟨m0, ?_, fun i y av q1 q2 q3 => ?_⟩, fun y c e => ?_, ?_, fun y c e => I.freeC y c (mem e).1, fun p hp => ?_, I.hok.kept kp, by rw [wipe_length]; exact I.len⟩
  · show Heap.Ns _ cenv.locals _
    rw [e2]
    exact hns
  · obtain ⟨q2, hne⟩ := wipe_some q2
    have hfr : scope.names.lookup y = some .free := by
      have key : ∀ k, cenv.scope.names.lookup y = some k → k = .local ∨ k = .cell ∨ k = .free → scope.names.lookup y = some .free := fun k hk hk' => by
        rw [e1] at hk
        rcases hk' with rfl | rfl | rfl
        · exfalso
          rcases ok.own _ (PySem.mem_of_lookup hk) (.inl rfl) with e' | e'
          · obtain ⟨p, hp, hpy⟩ := List.mem_map.mp e'
            have q3 := ok.ix p hp
            have : p.1 = y := hpy
            rw [this] at q3
            exact hne (List.mem_map.mpr ⟨p, hp, nodup_ix hN q3 q1⟩)
          · exact e' (List.mem_of_getElem? q1)
        · exact absurd rfl (hnc _ (PySem.mem_of_lookup hk))
        · exact hk
      have q3 : Vis cenv.scope y := q3
      rcases q3 with q3 | q3 | q3
      · exact key _ q3 (.inl rfl)
      · exact key _ q3 (.inr (.inl rfl))
      · exact key _ q3 (.inr (.inr rfl))
    have hfr2 : cenv.kindOf y = some .free := by unfold Env.kindOf; rw [e1]; exact hfr
    obtain ⟨m, hn, hl⟩ := I.loc
    have hvis : Vis X.env.scope y := (ok.free _ (PySem.mem_of_lookup hfr) rfl).elim (fun k => .inr (.inl k)) (fun k => .inr (.inr k))
    obtain ⟨w, r, q⟩ := hl i y av q1 q2 hvis
    refine ⟨w, r, .inr ⟨.inr hfr2, ?_⟩⟩
    obtain ⟨c, h1, h2⟩ := look hfr
    rcases q with ⟨k, _⟩ | ⟨_, c', e', z⟩
    · have k : X.env.scope.names.lookup y = some .local := k
      rcases ok.free _ (PySem.mem_of_lookup hfr) rfl with k' | k' <;> rw [show X.env.scope.names.lookup y = _ from k'] at k <;> cases k
    · rw [h2] at e'; cases e'
      exact ⟨c, h1, z.keeps kp⟩
  · obtain ⟨w, z⟩ := I.cell y c (mem e).1
    exact ⟨w, z.keeps kp⟩
  · show H cenv.locals = none
    rw [e2]; exact I.hok.fresh (Nat.le_refl _)
  · exact absurd (show p ∈ ([] : List (Addr × Obj)) ++ [] from hp) (by simp)
end
def Priv (X : Cx) (H : Hp) (s : Shared) (fp : List Addr) (p : Addr) : Prop := FpOk X [] H p ∧ p ∉ fp ∧ ∃ o, s.heap.get? p = some o ∧ ∀ v, o.data ≠ .cell v
def GSH (X : Cx) (σ : St) (fp : List Addr) (tn : Nat → Heap → Prop) (a : Addr) (g : Nat) (N : Nat) (W : Nat → List V → Hp → Prop) (pr : List Addr) (xs : List V) (s : Shared) : Prop :=
  ∃ i H, Inv X [] σ H s ∧ tn i s.heap ∧ (∀ b ∈ fp, H b = none) ∧ W i xs H ∧ i ≤ N ∧ s.heap.IsGen a g ∧ ∀ p ∈ a :: pr, Priv X H s fp p
def GSE (X : Cx) (σ : St) (N : Nat) (W : Nat → List V → Hp → Prop) (xs : List V) (s : Shared) : Prop := ∃ i H, Inv X [] σ H s ∧ W i xs H
section
variable {X : Cx} {σ : St} {fp : List Addr} {tn : Nat → Heap → Prop} {a : Addr} {g N : Nat} {W : Nat → List V → Hp → Prop} {pr : List Addr} {n : Nat} {Tie : List V → Shared → Prop}
abbrev SameP (pr : List Addr) (s s' : Shared) : Prop := ∀ p ∈ pr, ∀ o, s.heap.get? p = some o → s'.heap.get? p = some o
def gFin (X : Cx) (σ : St) (N : Nat) (W : Nat → List V → Hp → Prop) (pr : List Addr) (n : Nat) (Tie : List V → Shared → Prop) : Nat → Shared → Shared → Prop := fun r s₀ s₁ => r = 1 ∧ (∃ xs : List V, xs.length = n ∧ GSE X σ N W xs s₁ ∧ Tie xs s₁) ∧ SameP pr s₀ s₁
abbrev gEnd (X : Cx) (σ : St) (N : Nat) (W : Nat → List V → Hp → Prop) (pr : List Addr) (n : Nat) (Tie : List V → Shared → Prop) : GenEnd := fun r s₀ x s₁ => x = .ok .next ∧ gFin X σ N W pr n Tie r s₀ s₁
def gYld (X : Cx) (σ : St) (fp : List Addr) (tn : Nat → Heap → Prop) (a : Addr) (g : Nat) (N : Nat) (W : Nat → List V → Hp → Prop) (pr : List Addr) (n : Nat) (Tie : List V → Shared → Prop) : Protocol := fun m s₀ v s kap =>
  ∃ xs x, 1 ≤ m ∧ RelV x v ∧ xs.length + m = n ∧ GSH X σ fp tn a g N W pr (xs ++ [x]) s ∧ Tie xs s ∧ SameP pr s₀ s ∧ ∀ s'' : Shared, (∃ xs', xs'.length = xs.length + 1 ∧ GSH X σ fp tn a g N W pr xs' s'' ∧ Tie xs' s'') → kap (.send .none) s''
def gGS (X : Cx) (A : Around) (σ : St) (fp : List Addr) (tn : Nat → Heap → Prop) (a : Addr) (g : Nat) (N : Nat) (W : Nat → List V → Hp → Prop) (pr : List Addr) (n : Nat) (Tie : List V → Shared → Prop) (j : Nat) (s : Shared) : Prop :=
  ∃ gs, s.gens[g]? = some gs ∧ ∀ s'' : Shared, (∃ xs, xs.length = j ∧ GSH X σ fp tn a g N W pr xs s'' ∧ Tie xs s'') → gs.Goes (model X.prog X.w) A.in1 (gEnd X σ N W pr n Tie) (gYld X σ fp tn a g N W pr n Tie) (n - j + 1) (.send .none) s''
end
end L2
set_option linter.all false
set_option Elab.async false
set_option maxRecDepth 100000
set_option maxHeartbeats 1000000
namespace L2
open PySem PySem.Spec PyProof.Rows
section
variable {X : Cx} {A : Around} {σ : St} {fp : List Addr} {tn : Nat → Heap → Prop} {a : Addr} {g N : Nat} {W : Nat → List V → Hp → Prop} {pr : List Addr} {n : Nat} {Tie : List V → Shared → Prop}
  {elt tg iter : Expr} {ifs : List Expr} {scope : Scope} {pos : Pos} {it : Addr} {J : It} {gt : TG} {tt : TT} {te : TE} {vs : List Nat}
structure GStat (X : Cx) (fp : List Addr) (a : Addr) (pr : List Addr) : Prop where
  st : ∀ p ∈ a :: pr, p ≠ X.env.locals ∧ p ∉ X.fs ∧ (p ∈ X.ex ∨ X.s_0.heap.objs.size ≤ p) ∧ (∀ x c, X.env.cells.lookup x = some c → c ≠ p) ∧ p ∉ fp
theorem GStat.priv (S : GStat X fp a pr) {s₀ s : Shared} {H : Hp} {σ' : St} {q : List (Addr × Obj)} (hpn : X.pn = []) (I : Inv X (pinsAt (a :: pr) s₀.heap ++ q) σ' H s) (ho : ∀ p ∈ a :: pr, ∃ o, s₀.heap.get? p = some o ∧ ∀ v, o.data ≠ .cell v) : ∀ p ∈ a :: pr, Priv X H s fp p := fun p hp => by
  obtain ⟨o, e, d⟩ := ho p hp
  have z := I.pin (p, o) (List.mem_append_right _ (List.mem_append_left _ (mem_pinsAt hp e)))
  obtain ⟨s1, s2, s3, s4, s5⟩ := S.st p hp
  exact ⟨⟨z.2.1, s1, s2, s3, s4, fun r hr => absurd (show r ∈ X.pn ++ [] from hr) (by rw [hpn]; simp)⟩, s5, o, z.1, d⟩
theorem GStat.same {s₀ s : Shared} {H : Hp} {σ' : St} {q : List (Addr × Obj)} (I : Inv X (pinsAt (a :: pr) s₀.heap ++ q) σ' H s) : SameP (a :: pr) s₀ s := fun p hp o e =>
  (I.pin (p, o) (List.mem_append_right _ (List.mem_append_left _ (mem_pinsAt hp e)))).1
theorem SameP.gen {s₀ s : Shared} (h : SameP (a :: pr) s₀ s) (hg : s₀.heap.IsGen a g) : s.heap.IsGen a g :=
  let ⟨o, nm, qn, ho, r⟩ := hg; ⟨o, nm, qn, h a List.mem_cons_self o ho, r⟩
structure GWord (J : It) (σ : St) (vs : List Nat) (gt : TG) (tt : TT) (te : TE) (n N : Nat) (W : Nat → List V → Hp → Prop) : Prop where
  le : ∀ i xs H, W i xs H → xs.length ≤ n
  stop : ∀ i xs H, W i xs H → i = N → J.stop i H ∧ xs.length = n
  go : ∀ i xs H, W i xs H → i < N → J.go i H ∧ ∀ x H', J.yld i H x H' → gt x σ H' fun σ2 H2 => wipe σ2 vs = σ ∧ tt σ2 H2 fun b H3 =>
    if b = true then te σ2 H3 fun y H4 => xs.length < n ∧ W (i + 1) (xs ++ [y]) H4 else W (i + 1) xs H3
theorem seg_loopX (hxA : X.A = (A.in1).over (.compLoop (.GeneratorExp elt [⟨tg, iter, ifs, 0⟩] scope pos) 0 (.ref it) .none X.env) []) (hxe : X.xe = fun _ _ => False) (hpn : X.pn = []) (hex : X.ex = fp) (hc : X.calm = true)
    (hco : X.env.scope.isCoroutine = false) (T : Turn X.prog X.w X.K tg J fp it tn) (S : GStat X fp a pr) (hTie : ∀ xs s s', Tie xs s → SameP pr s s' → Tie xs s')
    (pg : PG X tg gt) (pt : PTs X ifs tt) (pe : PE X elt te) (w : GWord J σ vs gt tt te n N W) :
    ∀ (r k i : Nat) (xs : List V) (H : Hp) (s₀ s : Shared), n - xs.length + 1 = r → N - i = k → i ≤ N → (∀ p ∈ a :: pr, ∃ o, s₀.heap.get? p = some o ∧ ∀ v, o.data ≠ .cell v) → s₀.heap.IsGen a g → Tie xs s₀ →
      Inv X (pinsAt (a :: pr) s₀.heap) σ H s → tn i s.heap → (∀ b ∈ fp, H b = none) → W i xs H →
      Seg (model X.prog X.w) A.in1 (gEnd X σ N W pr n Tie) (gYld X σ fp tn a g N W pr n Tie) r s₀
        (.compLoop (.GeneratorExp elt [⟨tg, iter, ifs, 0⟩] scope pos) 0 (.ref it) .none X.env) ((model X.prog X.w).den (.compLoop (.GeneratorExp elt [⟨tg, iter, ifs, 0⟩] scope pos) 0 (.ref it) .none X.env)) [] s := by
  intro r
  induction r using Nat.strongRecOn with
  | ind r ihr =>
  intro k
  induction k with
  | zero =>
    intro i xs H s₀ s hr hk hi ho hg0 ht I st hf hw
    have hin : i = N := by omega
    obtain ⟨stop, hl⟩ := w.stop i xs H hw hin
    have fpok : ∀ b ∈ fp, FpOk X (pinsAt (a :: pr) s₀.heap) H b := fun b hb => ⟨hf b hb, (I.ok.exf b (by rw [hex]; exact hb)).1, I.ok.exfs b (by rw [hex]; exact hb), .inl (by rw [hex]; exact hb), fun x c e => (I.ok.exf b (by rw [hex]; exact hb)).2 x c e, fun p hp z => by
      rw [hpn] at hp
      have := (of_pinsAt (List.mem_append.mp hp |>.elim (fun z => absurd z (by simp)) id)).1
      exact (S.st p.1 this).2.2.2.2 (by rw [z]; exact hb)⟩
    show Seg _ A.in1 _ _ _ s₀ _ ((compTurn (.GeneratorExp elt [⟨tg, iter, ifs, 0⟩] scope pos) 0 (.ref it) .none X.env).onRaise (leaving X.env)) [] s
    rw [compTurn_gen, Sem.onRaise_eq_wrap]
    refine seg_bind_wrap (wpAny_standAt ?_)
    refine seg_bind_wrap ?_
    rw [← hxA]
    refine thnF (T.done X rfl rfl rfl hc i _ s σ H (fun _ _ => False) I fpok st stop) fun rr s1 ⟨hr1, I1⟩ => ?_
    subst hr1
    have sp : SameP (a :: pr) s₀ s1 := GStat.same (q := []) (by rw [List.append_nil]; exact I1)
    have sp' : SameP pr s₀ s1 := fun p hp => sp p (List.mem_cons_of_mem _ hp)
    exact seg_end (.ok .next) ⟨rfl, (by omega), ⟨xs, hl, ⟨i, H, I1.pins_of (fun p hp => by cases hp), hw⟩, hTie _ _ _ ht sp'⟩, sp'⟩
  | succ k ihk =>
    intro i xs H s₀ s hr hk hi ho hg0 ht I st hf hw
    have hin : i < N := by omega
    obtain ⟨go, step⟩ := w.go i xs H hw hin
    have fpok : ∀ b ∈ fp, FpOk X (pinsAt (a :: pr) s₀.heap) H b := fun b hb => ⟨hf b hb, (I.ok.exf b (by rw [hex]; exact hb)).1, I.ok.exfs b (by rw [hex]; exact hb), .inl (by rw [hex]; exact hb), fun x c e => (I.ok.exf b (by rw [hex]; exact hb)).2 x c e, fun p hp z => by
      rw [hpn] at hp
      have := (of_pinsAt (List.mem_append.mp hp |>.elim (fun z => absurd z (by simp)) id)).1
      exact (S.st p.1 this).2.2.2.2 (by rw [z]; exact hb)⟩
    show Seg _ A.in1 _ _ _ s₀ _ ((compTurn (.GeneratorExp elt [⟨tg, iter, ifs, 0⟩] scope pos) 0 (.ref it) .none X.env).onRaise (leaving X.env)) [] s
    rw [compTurn_gen, Sem.onRaise_eq_wrap]
    refine seg_bind_wrap (wpAny_standAt ?_)
    refine seg_bind_wrap ?_
    rw [← hxA]
    refine thnF (T.item X rfl rfl rfl hc i _ s σ H (fun _ _ => False) I fpok st go) fun rr s1 ⟨u, hr1, h1⟩ => ?_
    subst hr1
    refine seg_bind_wrap ?_
    rw [← hxA]
    refine thnF h1 fun _ s7 ⟨x, H7, I7, r7, y7, st7, n7⟩ => ?_
    have fpok7 : ∀ b ∈ fp, FpOk X (pinsAt (a :: pr) s₀.heap) H7 b := fun b hb => ⟨n7 b hb, (fpok b hb).2⟩
    have I7' := I7.pinned fpok7 (T.obj _ _ st7)
    refine seg_bind_wrap ?_
    rw [← hxA]
    have h8 := pg _ s7 _ H7 x u _ I7' r7 (step x H7 y7)
    rw [hxe] at h8
    refine thnF h8 fun _ s8 ⟨σ8, H8, I8, hw8, q8⟩ => ?_
    refine seg_bind_wrap ?_
    rw [← hxA]
    have h9 := pt _ s8 σ8 H8 _ I8 q8
    rw [hxe] at h9
    refine thnF h9 fun b s9 ⟨H9, I9, q9⟩ => ?_
    have back : ∀ {s' : Shared} {H' : Hp}, Inv X (pinsAt (a :: pr) s₀.heap ++ pinsAt fp s7.heap) σ8 H' s' → Inv X (pinsAt (a :: pr) s₀.heap) σ H' s' ∧ tn (i + 1) s'.heap ∧ ∀ b ∈ fp, H' b = none := fun {s' H'} I' => by
      have pin' : ∀ b ∈ fp, ∀ o, s7.heap.get? b = some o → s'.heap.get? b = some o ∧ H' b = none := fun b hb o e =>
        let z := I'.pin (b, o) (List.mem_append_right _ (List.mem_append_right _ (mem_pinsAt hb e)))
        ⟨z.1, z.2.1⟩
      have hl : σ.length = σ8.length := by rw [← hw8, wipe_length]
      refine ⟨(I'.unpinned).weak hl (fun j v e => ?_), T.keep _ _ _ st7 fun b hb o e => (pin' b hb o e).1, fun b hb => ?_⟩
      · rw [← hw8] at e
        exact (wipe_some e).1
      · obtain ⟨o, e, _⟩ := T.obj _ _ st7 b hb
        exact (pin' b hb o e).2
    cases b with
    | false =>
      simp only [Bool.false_eq_true, if_false] at q9 ⊢
      obtain ⟨I10, st10, n10⟩ := back I9
      exact seg_again rfl (ihk (i + 1) xs H9 s₀ s9 hr (by omega) (by omega) ho hg0 ht I10 st10 n10 q9)
    | true =>
      simp only [if_true] at q9 ⊢
      have hy : ∀ v, yieldOut X.env v = yieldValue v := fun v => by simp only [yieldOut, hco, Bool.false_eq_true, if_false]
      simp only [hy]
      rw [Sem.bind_eq_wrap', Sem.bind_eq_wrap', Sem.wrap_wrap, Sem.wrap_wrap]
      refine seg_wrap ?_
      rw [← hxA]
      have h10 := pe _ s9 σ8 H9 _ I9 q9
      rw [hxe] at h10
      refine thnF h10 fun z s10 ⟨yv, H10, I10, r10, hlt, w10⟩ => ?_
      obtain ⟨I11, st11, n11⟩ := back I10
      have sp : SameP (a :: pr) s₀ s10 := GStat.same (q := []) (by rw [List.append_nil]; exact I11)
      have sp' : SameP pr s₀ s10 := fun p hp => sp p (List.mem_cons_of_mem _ hp)
      obtain ⟨r', rfl⟩ : ∃ r', r = r' + 1 := ⟨r - 1, by omega⟩
      refine seg_at (seg_yield rfl rfl rfl ⟨xs, yv, by omega, r10, by omega, ⟨i + 1, H10, I11.pins_of (fun p hp => by cases hp), st11, n11, w10, by omega, sp.gen hg0, S.priv (q := []) hpn (by rw [List.append_nil]; exact I11) ho⟩, hTie _ _ _ ht sp', sp', fun s'' hs => ?_⟩)
      obtain ⟨xs', hl', ⟨i', H', I', st', n', w', hi', hg', pv'⟩, ht'⟩ := hs
      refine seg_again rfl (ihr r' (Nat.lt_succ_self _) (N - i') i' xs' H' s'' s'' (by omega) rfl hi' (fun p hp => (pv' p hp).2.2) hg' ht' ?_ st' n' w')
      exact I'.pinned (pins := []) (fun p hp => (pv' p hp).1) (fun p hp => (pv' p hp).2.2)
end
end L2
set_option linter.all false
set_option Elab.async false
set_option maxRecDepth 100000
set_option maxHeartbeats 1000000
namespace L2
open PySem PySem.Spec PyProof.Rows
theorem AllBare.setG {s : Shared} {g : Nat} {x : GenState} (h : AllBare s.gens) (hx : x.bare = true) : AllBare (s.setGen g x).gens := fun y hy => by
  simp only [Shared.setGen] at hy
  rcases Array.mem_or_eq_of_mem_setIfInBounds hy with e | e
  · exact h y e
  · rw [e]; exact hx
theorem Inv.gens {X : Cx} {pins : List (Addr × Obj)} {σ : St} {H : Hp} {s : Shared} {gs : Array GenState} (I : Inv X pins σ H s) (h : AllBare gs) : Inv X pins σ H { s with gens := gs } :=
  ⟨I.ok, I.os, h, I.base, I.loc, I.cell, I.free, I.freeC, I.pin, I.hok, I.len⟩
section
variable {X : Cx} {A : Around} {σ : St} {fp : List Addr} {tn : Nat → Heap → Prop} {a : Addr} {g N : Nat} {W : Nat → List V → Hp → Prop} {pr : List Addr} {n : Nat} {Tie : List V → Shared → Prop}
  {elt tg iter : Expr} {ifs : List Expr} {scope : Scope} {pos : Pos} {it : Addr} {J : It} {gt : TG} {tt : TT} {te : TE} {vs : List Nat}
theorem GSH.setG {xs : List V} {s : Shared} {x : GenState} (h : GSH X σ fp tn a g N W pr xs s) (hx : x.bare = true) : GSH X σ fp tn a g N W pr xs (s.setGen g x) := by
  obtain ⟨i, H, I, r⟩ := h
  exact ⟨i, H, I.gens (AllBare.setG I.bare hx), r⟩
theorem GSH.bare {xs : List V} {s : Shared} (h : GSH X σ fp tn a g N W pr xs s) : AllBare s.gens := by
  obtain ⟨i, H, I, r⟩ := h
  exact I.bare
theorem seg_startX (hxA : X.A = (A.in1).over (.compLoop (.GeneratorExp elt [⟨tg, iter, ifs, 0⟩] scope pos) 0 (.ref it) .none X.env) []) (hxe : X.xe = fun _ _ => False) (hpn : X.pn = []) (hex : X.ex = fp) (hc : X.calm = true)
    (hco : X.env.scope.isCoroutine = false) (T : Turn X.prog X.w X.K tg J fp it tn) (S : GStat X fp a pr) (hTie : ∀ xs s s', Tie xs s → SameP pr s s' → Tie xs s')
    (pg : PG X tg gt) (pt : PTs X ifs tt) (pe : PE X elt te) (w : GWord J σ vs gt tt te n N W) {s : Shared} (hs : ∃ xs, xs.length = 0 ∧ GSH X σ fp tn a g N W pr xs s ∧ Tie xs s) :
    Seg (model X.prog X.w) A.in1 (gEnd X σ N W pr n Tie) (gYld X σ fp tn a g N W pr n Tie) (n + 1) s
      (.compStart (.GeneratorExp elt [⟨tg, iter, ifs, 0⟩] scope pos) 0 (.ref it) .none X.env) ((model X.prog X.w).den (.compStart (.GeneratorExp elt [⟨tg, iter, ifs, 0⟩] scope pos) 0 (.ref it) .none X.env)) [] s := by
  obtain ⟨xs, hl, ⟨i, H, I, st, nf, hw, hi, hg, pv⟩, ht⟩ := hs
  have I' : Inv X (pinsAt (a :: pr) s.heap) σ H s := I.pinned (pins := []) (fun p hp => (pv p hp).1) (fun p hp => (pv p hp).2.2)
  have loop := seg_loopX (scope := scope) (pos := pos) (iter := iter) (vs := vs) (g := g) hxA hxe hpn hex hc hco T S hTie pg pt pe w (n + 1) (N - i) i xs H s s (by omega) rfl hi (fun p hp => (pv p hp).2.2) hg ht I' st nf hw
  show Seg _ A.in1 _ _ _ s _ ((compStart (.GeneratorExp elt [⟨tg, iter, ifs, 0⟩] scope pos) 0 (.ref it) .none X.env).onRaise (leaving X.env)) [] s
  unfold compStart
  rw [Sem.onRaise_eq_wrap]
  show Seg _ A.in1 _ _ _ s _ ((ask >>= _).wrap _ _ _ _) [] s
  refine seg_bind_wrap (wpAny_askSetting ?_)
  split
  · exact seg_again rfl loop
  · first
      | exact seg_bind_wrap (wpAny_rule (seg_bind_wrap (wpAny_standAt (seg_bind_wrap (T.self _ i s _ _ st (seg_again rfl loop))))))
      | (refine seg_bind_wrap (wpAny_rule ?_); show Seg _ A.in1 _ _ _ s _ ((standAt iter.pos >>= _).wrap _ _ _ _) [] s; exact seg_bind_wrap (wpAny_standAt (seg_bind_wrap (T.self _ i s _ _ st (seg_again rfl loop)))))
theorem walkX_gen (hh : A.handled = none) (hroom : A.depth < recursionLimit) (hTie : ∀ xs s s', Tie xs s → SameP pr s s' → Tie xs s') (hpn : X.pn = []) (S : GStat X fp a pr) (hap : ∀ p ∈ pr, p ≠ a) (hlen : ∀ i xs H, W i xs H → xs.length ≤ n) (hN : ∀ i xs H, W i xs H → xs.length = n → True)
    (tk : ∀ i h h', tn i h → (∀ b ∈ fp, ∀ o, h.get? b = some o → h'.get? b = some o) → tn i h') :
    WalkX X.prog X.w A a n pr Tie (GSH X σ fp tn a g N W pr) (GSE X σ N W) (gGS X A σ fp tn a g N W pr n Tie) where
  typ := fun xs s h => by
    obtain ⟨i, H, I, st, nf, hw, hi, hg, pv⟩ := h
    exact hg.typeIs
  out := hap
  turn := fun xs s p h' tk' h hp k ho => by
    obtain ⟨i, H, I, st, nf, hw, hi, hg, pv⟩ := h
    have P := pv p (List.mem_cons_of_mem _ hp)
    obtain ⟨⟨f0, f1, f2, f3, f4, f5⟩, f6, _⟩ := P
    have ne : ∀ b ∈ fp, b ≠ p := fun b hb z => f6 (z ▸ hb)
    have ha : a ≠ p := fun z => hap p hp z.symm
    refine ⟨i, H, I.turned (t' := tk') k f0 f1 f3 f4 f5, tk _ _ _ st fun b hb o e => k b o (ne b hb) e, nf, hw, hi, let ⟨o, nm, qn, e, r⟩ := hg; ⟨o, nm, qn, k a o ha e, r⟩, fun q hq => ?_⟩
    obtain ⟨g1, g2, o, e, d⟩ := pv q hq
    refine ⟨g1, g2, ?_⟩
    by_cases z : q = p
    · subst z; exact ho
    · exact ⟨o, k q o z e, d⟩
  gst := fun j s s' h e => by
    obtain ⟨gs, hgs, hgo⟩ := h
    exact ⟨gs, by rw [e]; exact hgs, hgo⟩
  fin := fun xs s h _ => by
    obtain ⟨i, H, I, st, nf, hw, _⟩ := h
    exact ⟨i, H, I, hw⟩
  item := fun j s Q E hj hx hG hQ => by
    obtain ⟨gs, hgs, hgo⟩ := hG
    obtain ⟨xs0, hl0, hsh0, ht0⟩ := hx
    have hlt : g < s.gens.size := by
      rcases Nat.lt_or_ge g s.gens.size with h' | h'
      · exact h'
      · rw [Array.getElem?_eq_none h'] at hgs; cases hgs
    have hgen : s.heap.IsGen a g := by obtain ⟨i, H, I, st, nf, hw, hi, hg, pv⟩ := id hsh0; exact hg
    have hlim : s.heap.NoLimit := by obtain ⟨i, H, I, _⟩ := id hsh0; exact I.nolimit
    have hrun := hgo (s.setGen g .running) ⟨xs0, hl0, hsh0.setG rfl, hTie _ _ _ ht0 fun _ _ _ e => e⟩
    obtain ⟨m, hm⟩ : ∃ m, n - j + 1 = m + 1 := ⟨n - j, rfl⟩
    rw [hm] at hrun
    refine wpAny_with_gens (Nat.le_refl _) ?_
    refine wpAny_pyNext_genexpQ (n := m + 1) (P := gFin X σ N W pr n Tie) hh hlim hroom hgen hgs hrun (fun v s₁ gs' hb hv => ?_) (fun s₁ hp h' hk => ?_)
    · intro hsz
      rw [setGen_size] at hsz
      obtain ⟨xs, x, h1, r, hl, hsh, ti, sp, hkap⟩ := hv
      have hl' : xs.length = j := by omega
      refine hQ v _ xs x hl' r (hsh.setG hb) (hTie _ _ _ ti fun _ _ _ e => e) (fun p hp o e => sp p hp o e) ⟨gs', setGen_at (Nat.lt_of_lt_of_le hlt hsz), fun s'' hs => ?_⟩
      have e1 : n - (j + 1) + 1 = m := by omega
      rw [e1]
      obtain ⟨xs', q1, q2⟩ := hs
      exact hkap s'' ⟨xs', by omega, q2⟩
    · intro _
      exfalso
      have := hp.1
      omega
  done := fun s Q E hx hG hQ => by
    obtain ⟨gs, hgs, hgo⟩ := hG
    obtain ⟨xs0, hl0, hsh0, ht0⟩ := hx
    have hgen : s.heap.IsGen a g := by obtain ⟨i, H, I, st, nf, hw, hi, hg, pv⟩ := id hsh0; exact hg
    have hlim : s.heap.NoLimit := by obtain ⟨i, H, I, _⟩ := id hsh0; exact I.nolimit
    have hrun := hgo (s.setGen g .running) ⟨xs0, hl0, hsh0.setG rfl, hTie _ _ _ ht0 fun _ _ _ e => e⟩
    have e0 : n - n + 1 = 1 := by omega
    rw [e0] at hrun
    refine wpAny_pyNext_genexpQ (n := 1) (P := gFin X σ N W pr n Tie) hh hlim hroom hgen hgs hrun (fun v s₁ gs' hb hv => ?_) (fun s₁ hp h' hk => ?_)
    · exfalso
      obtain ⟨xs, x, h1, _⟩ := hv
      exact absurd h1 (by decide)
    · obtain ⟨_, ⟨xs, hl, ⟨i, H, I, hw⟩, ti⟩, sp⟩ := hp
      refine hQ _ xs hl ⟨i, H, ?_, hw⟩ (hTie _ _ _ ti fun p hp o e => hk p o e) fun p hp o e => hk p o (sp p hp o e)
      exact (I.gens (AllBare.setG (g := g) (x := .finished) I.bare rfl)).kept (h' := h') (t' := s₁.toks) hk
  self := fun xs s Q E h hQ => by
    obtain ⟨i, H, I, st, nf, hw, hi, hg, pv⟩ := h
    exact wpAny_pyIter_gen hg hQ
end
end L2
set_option linter.all false
set_option Elab.async false
set_option maxRecDepth 100000
set_option maxHeartbeats 1000000
namespace L2
open PySem PySem.Spec PyProof.Rows
structure GenCx (X : Cx) (c P : Addr) : Prop where
  code : X.env.code = .ref c
  hd : PySem.W.CodeHd X.base c P
  bm : ∃ (bm : Addr) (ob : Obj), X.mg "__builtins__" = some (.ref bm) ∧ bm ≠ builtinsNs ∧ X.base.get? bm = some ob ∧ ob.cls = .type "module" ∧ ob.dict = some builtinsNs ∧ ob.data = .plain
structure AOk (X : Cx) (A : Around) : Prop where
  fr : A.frames = X.A.frames
  hd : A.handled = none
  dp : A.depth = X.A.depth
  un : A.units ≤ X.A.units + 8
def GRdy (X : Cx) (pins : List (Addr × Obj)) (σ : St) (n : Nat) (W : Nat → List V → Hp → Prop) (a : Addr) (s : Shared) : Prop :=
  s.TypeIs (.ref a) "generator" ∧ a < s.heap.objs.size ∧
  ∀ (A : Around), AOk X A → ∀ (pr : List Addr) (Tie : List V → Shared → Prop) (s' : Shared), (∀ b o, s.heap.get? b = some o → s'.heap.get? b = some o) → s'.gens = s.gens → s'.os = s.os →
    (∀ p ∈ pr, s.heap.objs.size ≤ p ∧ ∃ o, s'.heap.get? p = some o ∧ ∀ v, o.data ≠ .cell v) → (∀ xs s s', Tie xs s → SameP pr s s' → Tie xs s') → Tie [] s' →
    ∃ (SH SE : List V → Shared → Prop) (GS : Nat → Shared → Prop), WalkX X.prog X.w A a n pr Tie SH SE GS ∧ SH [] s' ∧ GS 0 s' ∧ (∀ xs s, SH xs s ∨ SE xs s → ∃ i H, Inv X pins σ H s ∧ W i xs H)
section
variable {X : Cx} {pins : List (Addr × Obj)} {σ : St} {H : Hp} {s : Shared}
theorem Inv.of_eq {s' : Shared} (I : Inv X pins σ H s) (hh : s'.heap = s.heap) (hg : AllBare s'.gens) (ho : s'.os = s.os) : Inv X pins σ H s' := by
  obtain ⟨h, g, d, t, o⟩ := s'
  cases hh
  cases ho
  exact ⟨I.ok, I.os, hg, I.base, I.loc, I.cell, I.free, I.freeC, I.pin, I.hok, I.len⟩
theorem Inv.table {P : Addr} {ps more : Array Value} {h' : Heap} {tk : Nat} (I : Inv X pins σ H s) (hP : H P = some (.tbl ps)) (k : ∀ b o, b ≠ P → s.heap.get? b = some o → h'.get? b = some o) (e : h'.get? P = some { cls := .none, data := .fields (ps ++ more) }) :
    Inv X pins σ (upd H P (.tbl (ps ++ more))) { s with heap := h', toks := tk } := by
  have nn : ∀ b, H b = none → b ≠ P := fun b n z => by rw [z, hP] at n; cases n
  have nt : ∀ b u, H b = some u → u ≠ .tbl ps → b ≠ P := fun b u q n z => by rw [z, hP] at q; cases q; exact n rfl
  refine I.un ⟨fun b o q n _ _ => k b o (nn b n) q, fun b o q n _ _ => ⟨o.slots, k b o (nn b n) q⟩, fun b o q n _ => by rw [upd_ne (nn b n)]; exact n, fun b o q _ => ?_, fun b xs q => by rw [upd_ne (nt b _ q (by intro z; cases z))]; exact q, fun b o u q => by rw [upd_ne (nt b _ q (by intro z; cases z))]; exact q, fun b ps' q => ?_⟩ (fun b u q => ?_)
  · by_cases z : b = P
    · exact ⟨_, z ▸ e⟩
    · exact ⟨o, k b o z q⟩
  · by_cases z : b = P
    · subst z
      rw [hP] at q; cases q
      exact ⟨more, upd_same⟩
    · exact ⟨#[], by rw [upd_ne z, q]; simp⟩
  · by_cases z : b = P
    · subst z
      rw [upd_same] at q; cases q
      exact e
    · rw [upd_ne z] at q
      refine (I.hok b u q).stay (fun c v hc r => k c v ?_ r) (fun c r => by rw [upd_ne (nt c _ r (by intro z; cases z))]; exact r) fun c xs r => by rw [upd_ne (nt c _ r (by intro z; cases z))]; exact r
      rcases hc with rfl | hc
      · exact z
      · exact nt c _ hc (by intro z; cases z)
theorem genexprCode_ok {c P : Addr} {ps : Array Value} {pos : Pos} {qualname : Str} {scope : Scope} {E : Value → Shared → Prop} {Q : Value → Shared → Prop} (I : Inv X pins σ H s) (G : GenCx X c P) (hP : H P = some (.tbl ps)) (ht : TriplesOk ps.toList)
    (hQ : ∀ code h' tk ps', TriplesOk ps'.toList → (∀ b o, b ≠ P → s.heap.get? b = some o → h'.get? b = some o) → Inv X pins σ (upd H P (.tbl ps')) { s with heap := h', toks := tk } → Q code { s with heap := h', toks := tk }) :
    wpAny (model X.prog X.w) X.A (genexprCode X.env pos qualname scope) Q E s := by
  have hd := G.hd.keeps I.bk
  have hpo : s.heap.get? P = some (PySem.W.tabObj ps) := I.hok P _ hP
  have hok := hd.code hpo ht
  cases hnf : codeAmong pos ps.toList with
  | some cv =>
    obtain ⟨o, vs, file, tf, flags, tg, inF, text, tt, op, ho, hd', h11, h2, h7, h9, h10, hop, hpd, htr, hne⟩ := id hok
    unfold genexprCode codeAt
    rw [G.code, if_neg (show ¬ ((Value.ref c == Value.none) = true) from Bool.false_ne_true)]
    refine wpAny_bind (wpAny_fieldsOf ho hd' ?_)
    rw [h11]
    refine wpAny_bind (wpAny_fieldsOf hop hpd ?_)
    rw [hnf]
    refine wpAny_pure (hQ cv s.heap s.toks ps ht (fun b o _ e => e) ?_)
    have e : upd H P (.tbl ps) = H := by
      funext b
      unfold upd
      split
      · rename_i z; rw [z, hP]
      · rfl
    rw [e]
    exact I
  | none =>
    refine wpAny_genexprCodeX G.code hok (hd.tab hpo) hnf fun c' h' tk hx _ _ hcode' _ htab' _ => ?_
    refine hQ _ h' tk _ ?_ (fun b o hb e => hx b o hb e) (I.table hP (fun b o hb e => hx b o hb e) htab'.2)
    obtain ⟨_, _, _, _, _, _, _, _, _, op, _, _, _, _, _, _, _, hop, hpd, htr, _⟩ := hcode'
    exact htr
theorem gen_make {c P : Addr} {k : Nat} {elt tg iter : Expr} {ifs : List Expr} {scope : Scope} {own : List (Str × Nat)} {pos : Pos} {wi : TI} {gt : TG} {tt : TT} {te : TE} {Kon : Nat → Nat → (Nat → List V → Hp → Prop) → Prop} {Q : Value → Shared → Prop}
    (hr : Room (k + 1) X.A) (G : GenCx X c P) (hc : X.calm = true) (hN : X.N.Nodup) (I : Inv X pins σ H s) (hi : PI X tg iter wi) (ok : BlkOk X.N X.env.scope scope own)
    (hnc : ∀ y ∈ scope.names, y.2 ≠ .cell) (h0 : scope.names.lookup (".0" : Str) = some NameKind.local) (hco : scope.isCoroutine = false)
    (hg : ∀ (A' : Around) (s : Shared) (H : Hp) (cl : List (Str × Addr)) (C : Addr) (code : Value) (fp : List Addr), PG (X.gblk A' s H (genEnv scope cl C code builtinsNs X.env) fp) tg gt)
    (ht : ∀ (A' : Around) (s : Shared) (H : Hp) (cl : List (Str × Addr)) (C : Addr) (code : Value) (fp : List Addr), Room k A' → PTs (X.gblk A' s H (genEnv scope cl C code builtinsNs X.env) fp) ifs tt)
    (he : ∀ (A' : Around) (s : Shared) (H : Hp) (cl : List (Str × Addr)) (C : Addr) (code : Value) (fp : List Addr), Room k A' → PE (X.gblk A' s H (genEnv scope cl C code builtinsNs X.env) fp) elt te)
    (hs : ∀ x, genFold iter X.env x = pure x)
    (h : wi σ H fun J H1 => ∃ ps, H1 P = some (.tbl ps) ∧ TriplesOk ps.toList ∧ ∀ ps' : Array Value, TriplesOk ps'.toList → ∃ n N W, GWord J (wipe σ (own.map (·.2))) (own.map (·.2)) gt tt te n N W ∧ W 0 [] (upd H1 P (.tbl ps')) ∧ Kon n N W)
    (hQ : ∀ n N W a s5, Kon n N W → GRdy X pins σ n W a s5 → Q (.ref a) s5) :
    wpAny (model X.prog X.w) X.A (eval (.GeneratorExp elt [⟨tg, iter, ifs, 0⟩] scope pos) X.env) Q X.xe s := by
  have hfree : ∀ y ∈ scope.names, y.2 = .free → ∃ c, X.env.cells.lookup y.1 = some c := fun y hy e => by
    rcases ok.free y hy e with k | k
    · exact I.ok.has _ (.inl k)
    · exact I.ok.has _ (.inr k)
  refine wpAny_GeneratorExp_make hco (closure_ok hfree) hnc h0 ok.kind hr.depth (thn (hi pins s σ H _ I h) fun xv s1 hx => thn hx fun itv s2 h2 => ?_) hs
  obtain ⟨it, fp, tn, J, H2, e, I2, T, st2, f2, ps, hP, htr, q⟩ := h2
  subst e
  refine ⟨I2.nolimit, genexprCode_ok I2 G hP htr fun code h3 tk3 ps' htr' kp3 I3 => ?_⟩
  obtain ⟨bm, ob, b1, b2, b3, b4, b5, b6⟩ := G.bm
  have nsG : h3.Ns X.env.globals X.mg := by
    rw [I.ok.glob]
    exact I3.ok.mod.glob.keeps I3.bk
  refine wpAny_builtinsFor nsG b1 b2 (I3.bk _ _ b3) b4 b5 b6 ?_
  obtain ⟨n, N, W, gw, w0, kon⟩ := q ps' htr'
  intro h4 hns4 hsb
  generalize hC : h3.objs.size = C at *
  generalize hcenv : genEnv scope (cloFrom X.env.cells scope.names []) C code builtinsNs X.env = cenv
  have fpP : ∀ b ∈ fp, b ≠ P := fun b hb z => by have := (f2 b hb).1; rw [z, hP] at this; cases this
  have sz2 : ∀ b ∈ fp, b < s2.heap.objs.size := fun b hb => by
    obtain ⟨o, e, _⟩ := T.obj _ _ st2 b hb
    exact Heap.lt_size e
  have f3 : ∀ b ∈ fp, FpOk X pins (upd H2 P (.tbl ps')) b ∧ b < h3.objs.size := fun b hb => by
    refine ⟨⟨by rw [upd_ne (fpP b hb)]; exact (f2 b hb).1, (f2 b hb).2⟩, ?_⟩
    obtain ⟨o, e, _⟩ := T.obj _ _ st2 b hb
    exact Heap.lt_size (kp3 b o (fpP b hb) e)
  have st3 : tn 0 h3 := T.keep _ _ _ st2 fun b hb o e => kp3 b o (fpP b hb) e
  generalize hH3 : upd H2 P (.tbl ps') = H3 at *
  have kp4 : ∀ b o, h3.get? b = some o → h4.get? b = some o := fun b o e => hsb.extBut b o (by rw [← hC]; exact Nat.ne_of_lt (Heap.lt_size e)) (Heap.get?_push_of_some _ e)
  have sz4 : h4.objs.size = C + 1 := by rw [hsb.1, Heap.size_push, hC]
  have szb : ∀ b ∈ fp, b < h4.objs.size := fun b hb => by
    obtain ⟨o, e, _⟩ := T.obj _ _ st3 b hb
    exact Heap.lt_size (kp4 b o e)
  have fpn : ∀ b ∈ fp, H3 b = none := fun b hb => (f3 b hb).1.1
  refine hQ n N W h4.objs.size _ kon ⟨⟨_, Heap.get?_push_size _ rfl, rfl⟩, by rw [Heap.size_push]; exact Nat.lt_succ_self _, fun A hA pr Tie s' ks gs os hpr hTie ht0 => ?_⟩
  generalize hs4 : ({ s2 with heap := h3, toks := tk3 } : Shared) = s4 at *
  -- the block's context
  generalize hA' : (A.in1).over (.compLoop (.GeneratorExp elt [⟨tg, iter, ifs, 0⟩] scope pos) 0 (.ref it) .none cenv) [] = A'
  have frA : A'.frames = some (cenv :: X.stack) := by
    rw [← hA']
    have e : ((A.in1).over (.compLoop (.GeneratorExp elt [⟨tg, iter, ifs, 0⟩] scope pos) 0 (.ref it) .none cenv) []).frames = A.frames.map ([cenv] ++ ·) := rfl
    rw [e, hA.fr, I.ok.frames]
    rfl
  have hdA : A'.handled = none := by rw [← hA']; exact hA.hd
  have rm : Room k A' := by
    refine ⟨hdA, ?_, ?_⟩
    · have := hr.dp
      have e : A'.depth = A.depth + 1 := by rw [← hA']; rfl
      rw [e, hA.dp]; omega
    · have := hr.un
      have e : A'.units = A.units + 1 + 3 := by rw [← hA']; rfl
      have := hA.un
      rw [e]; omega
  have hb4 : s4.heap = h3 := by rw [← hs4]
  have I4 : Inv (X.gblk A' s4 H3 cenv fp) [] (wipe σ (own.map (·.2))) H3 { s4 with heap := h4, gens := s4.gens, toks := s4.toks } :=
    gblock_start I3 ok hN (fun b hb => ⟨(f3 b hb).1, by rw [hb4]; exact (f3 b hb).2⟩) frA hdA (by rw [← hcenv]; rfl) (by rw [← hcenv, hb4, hC]; rfl) (by rw [← hcenv]; rfl) (by rw [← hcenv]; exact I.ok.glob) (by rw [← hcenv]; rfl) (by rw [← hcenv]; rfl) hnc (by rw [hb4]; exact kp4) (by rw [hb4, hC]; exact hns4) I3.bare
  have I5 : Inv (X.gblk A' s4 H3 cenv fp) [] (wipe σ (own.map (·.2))) H3 s' :=
    (I4.kept (h' := s'.heap) (t' := s4.toks) fun b o e => ks b o (Heap.get?_push_of_some _ e)).of_eq rfl (by rw [gs]; exact I3.bare.push rfl) os
  have S : GStat (X.gblk A' s4 H3 cenv fp) fp h4.objs.size pr := ⟨fun p hp => by
    have hle : h4.objs.size ≤ p := by
      rcases List.mem_cons.mp hp with rfl | hp
      · exact Nat.le_refl _
      · have := (hpr p hp).1
        rw [Heap.size_push] at this
        exact Nat.le_of_succ_le this
    obtain ⟨_, q1, q2, q3, q4, _⟩ := I4.fpOk (H' := H3) hle (I4.hok.fresh hle)
    exact ⟨q1, q2, q3, q4, fun hb => absurd (Nat.lt_of_lt_of_le (szb p hb) hle) (Nat.lt_irrefl _)⟩⟩
  have hgen : s'.heap.IsGen h4.objs.size s4.gens.size := ⟨_, _, _, ks _ _ (Heap.get?_push_size _ rfl), rfl, rfl, rfl⟩
  have hpv : ∀ p ∈ h4.objs.size :: pr, Priv (X.gblk A' s4 H3 cenv fp) H3 s' fp p := fun p hp => by
    have hle : h4.objs.size ≤ p := by
      rcases List.mem_cons.mp hp with rfl | hp
      · exact Nat.le_refl _
      · have := (hpr p hp).1
        rw [Heap.size_push] at this
        exact Nat.le_of_succ_le this
    refine ⟨I4.fpOk hle (I4.hok.fresh hle), (S.st p hp).2.2.2.2, ?_⟩
    rcases List.mem_cons.mp hp with rfl | hp
    · exact ⟨_, ks _ _ (Heap.get?_push_size _ rfl), fun v z => by cases z⟩
    · exact (hpr p hp).2
  have hsh : GSH (X.gblk A' s4 H3 cenv fp) (wipe σ (own.map (·.2))) fp tn h4.objs.size s4.gens.size N W pr [] s' :=
    ⟨0, H3, I5, T.keep _ _ _ st3 fun b hb o e => ks b o (Heap.get?_push_of_some _ (kp4 b o e)), fpn, w0, Nat.zero_le _, hgen, hpv⟩
  refine ⟨GSH (X.gblk A' s4 H3 cenv fp) (wipe σ (own.map (·.2))) fp tn h4.objs.size s4.gens.size N W pr, GSE (X.gblk A' s4 H3 cenv fp) (wipe σ (own.map (·.2))) N W, gGS (X.gblk A' s4 H3 cenv fp) A (wipe σ (own.map (·.2))) fp tn h4.objs.size s4.gens.size N W pr n Tie,
    walkX_gen (X := X.gblk A' s4 H3 cenv fp) hA.hd (by rw [hA.dp]; exact hr.depth) hTie rfl S (fun p hp => ?_) gw.le (fun _ _ _ _ _ => trivial) T.keep, hsh, ⟨.fresh (.compStart (.GeneratorExp elt [⟨tg, iter, ifs, 0⟩] scope pos) 0 (.ref it) .none cenv), ?_, fun s'' hs'' => ⟨rfl, ?_⟩⟩, fun xs sx hx => ?_⟩
  · have := (hpr p hp).1
    rw [Heap.size_push] at this
    exact Nat.ne_of_gt this
  · rw [gs, ← hcenv, ← hC]
    subst hs4
    exact Array.getElem?_push_size ..
  · have pg := hg A' s4 H3 (cloFrom X.env.cells scope.names []) C code fp
    have pt := ht A' s4 H3 (cloFrom X.env.cells scope.names []) C code fp rm
    have pe := he A' s4 H3 (cloFrom X.env.cells scope.names []) C code fp rm
    rw [hcenv] at pg pt pe
    exact seg_startX (X := X.gblk A' s4 H3 cenv fp) hA'.symm rfl rfl rfl hc (by show cenv.scope.isCoroutine = false; rw [← hcenv]; exact hco) T S hTie pg pt pe gw hs''
  · have back : ∀ {i : Nat} {Hx : Hp}, Inv (X.gblk A' s4 H3 cenv fp) [] (wipe σ (own.map (·.2))) Hx sx → Inv X pins σ Hx sx := fun {i Hx} J =>
      I3.call' (ch := fp) J.os J.base J.hok J.bare fun b hb => ⟨(f3 b hb).1.2.2.2.1, (f3 b hb).1.2.1, (f3 b hb).1.2.2.2.2.1, (f3 b hb).1.2.2.2.2.2⟩
    rcases hx with ⟨i, Hx, J, _, _, hw, _⟩ | ⟨i, Hx, J, hw⟩
    · exact ⟨i, Hx, back (i := i) J, hw⟩
    · exact ⟨i, Hx, back (i := i) J, hw⟩
end
end L2
set_option linter.all false
set_option Elab.async false
set_option maxRecDepth 100000
set_option maxHeartbeats 1000000
namespace L2
open PySem PySem.Spec PyProof.Rows
theorem AOk.in1 {X : Cx} {k : Nat} (hr : Room k X.A) : AOk X X.A.in1 := ⟨rfl, hr.hd, rfl, by show X.A.units + 1 ≤ _; omega⟩
theorem AOk.in3 {X : Cx} {k : Nat} (hr : Room k X.A) : AOk X X.A.in1.in1.in1 := ⟨rfl, hr.hd, rfl, by show X.A.units + 1 + 1 + 1 ≤ _; omega⟩
section
variable {X : Cx} {pins : List (Addr × Obj)} {σ : St} {n : Nat} {W : Nat → List V → Hp → Prop} {a : Addr} {s : Shared} {E : Value → Shared → Prop} {k : Nat}
theorem collectX {A : Around} {Q : List Value → Shared → Prop} (hA : AOk X A.in1) (R : GRdy X pins σ n W a s) (hn : n ≤ sizeLine)
    (hQ : ∀ s' xs acc, xs.length = n → (∃ i H, Inv X pins σ H s' ∧ W i xs H) → Vals xs acc → Q acc s') : wpAny (model X.prog X.w) A (collect (.ref a)) Q E s := by
  obtain ⟨ty, lt, R⟩ := R
  have hSI : s.heap.objs.size ≠ a := Nat.ne_of_gt lt
  unfold collect
  refine wpAny_bind (wpAny_runValue (codeAny_builtin F.entry_proto_collect ?_))
  rw [Around.under_plainId F.plain_proto_collect _]
  show wpAny _ A.in1 (newList [] >>= fun l => again (.builtin "list.__iadd__" ⟨[l, .ref a], []⟩)) _ _ s
  refine wpAny_bind (wpAny_newObj_type ?_)
  refine wpAny_pure ⟨plainId_quiet F.plain_list_iadd _, codeAny_builtin F.entry_list_iadd ?_⟩
  rw [Around.under_plainId F.plain_list_iadd _]
  show wpAny _ A.in1 (Builtin.List.listExtendWith (.ref s.heap.objs.size) (.ref a) (.ref s.heap.objs.size)) _ _ _
  have kp1 : ∀ b o, s.heap.get? b = some o → (s.heap.push { cls := .type "list", data := .seq ([] : List Value).toArray }).get? b = some o := fun b o e => Heap.get?_push_of_some _ e
  have ty1 : ({ s with heap := s.heap.push { cls := .type "list", data := .seq ([] : List Value).toArray } } : Shared).TypeIs (.ref a) "generator" := by
    obtain ⟨o, e, c⟩ := ty
    exact ⟨o, kp1 _ _ e, c⟩
  unfold Builtin.List.listExtendWith
  refine wpAny_bind (wpAny_typeOf ty1 ?_)
  have h1 : Builtin.List.listSameRef (.ref s.heap.objs.size) (.ref a) = false := by simp [Builtin.List.listSameRef, hSI]
  have h2 : (Value.type "generator" == Value.type "list") = false := by decide
  have h3 : (Value.type "generator" == Value.type "tuple") = false := by decide
  simp only [h1, h2, h3, Bool.or_false, Bool.false_eq_true, if_false]
  obtain ⟨SH0, SE0, GS0, w0, sh0, gs0, hInv0⟩ := R A.in1 hA [] NoTie { s with heap := s.heap.push { cls := .type "list", data := .seq ([] : List Value).toArray } } kp1 rfl rfl (fun p hp => by cases hp) (fun _ _ _ _ _ => trivial) trivial
  refine wpAny_bind (w0.self [] _ _ _ sh0 ?_)
  refine wpAny_bind (wpAny_holding ?_)
  unfold Builtin.List.listLengthHint
  refine wpAny_bind (wpAny_specialOf ty1 F.gen_no_len ?_)
  show wpAny _ A.in1 (specialOf (Value.ref a) (Str.ofString "__length_hint__") >>= _) _ _ _
  refine wpAny_bind (wpAny_specialOf ty1 F.gen_no_hint ?_)
  refine wpAny_pure ?_
  show wpAny _ A.in1 (rule "list.extend.makes-room" >>= fun _ => Builtin.List.listTouch (.ref s.heap.objs.size) >>= fun _ =>
    again (.builtin "list.extend.loop" ⟨[.ref s.heap.objs.size, .ref a, .ref s.heap.objs.size], []⟩)) _ _ _
  refine wpAny_bind (wpAny_rule ?_)
  have hS₁ : (s.heap.push { cls := .type "list", data := .seq ([] : List Value).toArray }).get? s.heap.objs.size = some { cls := .type "list", data := .seq ([] : List Value).toArray } := Heap.get?_push_size _ rfl
  refine wpAny_bind ?_
  show wpAny _ A.in1 (updateSeq s.heap.objs.size (·.push .none) >>= fun _ => updateSeq s.heap.objs.size (·.pop)) _ _ _
  refine wpAny_bind (wpAny_updateSeq hS₁ rfl ?_)
  have hS₂ := Heap.get?_update_self (Obj.mapSeq (·.push Value.none)) hS₁ rfl
  refine wpAny_updateSeq hS₂ rfl ?_
  have hS₃ := Heap.get?_update_self (Obj.mapSeq (·.pop)) hS₂ rfl
  have oth : ∀ b o, s.heap.get? b = some o →
      (((s.heap.push { cls := .type "list", data := .seq ([] : List Value).toArray }).update s.heap.objs.size (Obj.mapSeq (·.push Value.none))).update s.heap.objs.size (Obj.mapSeq (·.pop))).get? b = some o :=
    fun b o e => (Heap.get?_update_other _ _ (Nat.ne_of_gt (Heap.lt_size e))).trans ((Heap.get?_update_other _ _ (Nat.ne_of_gt (Heap.lt_size e))).trans (kp1 b o e))
  generalize hH9 : ((s.heap.push { cls := .type "list", data := .seq ([] : List Value).toArray }).update s.heap.objs.size (Obj.mapSeq (·.push Value.none))).update s.heap.objs.size (Obj.mapSeq (·.pop)) = h9 at hS₃ oth ⊢
  obtain ⟨SH, SE, GS, w, sh, gs, hInv⟩ := R A.in1 hA [s.heap.objs.size] (TieL s.heap.objs.size) { s with heap := h9 } oth rfl rfl (fun p hp => by
      rw [List.mem_singleton.mp hp]
      exact ⟨Nat.le_refl _, _, hS₃, fun v z => by cases z⟩) (fun xs s1 s2 ⟨acc, c, e, v⟩ sp => ⟨acc, c, sp _ List.mem_cons_self _ e, v⟩) ⟨_, _, hS₃, .nil⟩
  refine wpAny_pure ⟨plainId_quiet F.plain_extend_loop _, extend_loopX w hn List.mem_cons_self _ n 0 _ rfl (Nat.zero_le _) ⟨[], rfl, sh, ⟨_, _, hS₃, .nil⟩⟩ gs fun s' xs hl se ti => ?_⟩
  obtain ⟨acc, c, hS', va⟩ := ti
  show wpAny _ A (load s.heap.objs.size >>= _) _ _ s'
  refine wpAny_bind (wpAny_load hS' ?_)
  exact wpAny_pure (hQ s' xs acc.toList hl (hInv xs s' (.inr se)) va)
theorem tuple_newX {A : Around} {Q₁ : Value → Shared → Prop} (hA : AOk X A.in1.in1) (R : GRdy X pins σ n W a s) (hn : n ≤ sizeLine)
    (h : ∀ s' xs acc, xs.length = n → (∃ i H, Inv X pins σ H s' ∧ W i xs H) → Vals xs acc → Q₁ (.ref s'.heap.objs.size) { s' with heap := s'.heap.push { cls := .type "tuple", data := .seq acc.toArray } }) :
    codeAny (model X.prog X.w) A (.call (.builtin "tuple.__new__") ⟨[.type "tuple", .ref a], []⟩) (wants Q₁ E) s := by
  refine codeAny_of_tree ?_
  show wpAny _ A.in1 (do checkBuiltinCall "tuple.__new__" ⟨[.type "tuple", .ref a], []⟩; again (.builtin "tuple.__new__" ⟨[.type "tuple", .ref a], []⟩)) _ _ s
  refine wpAny_bind (wpAny_of_eq (F.newCall_tuple_1 _) (wpAny_pure ⟨plainId_quiet F.plain_tuple_new _, codeAny_builtin F.entry_tuple_new ?_⟩))
  rw [Around.under_plainId F.plain_tuple_new _]
  have hsub := sub_tuple_self
  have hinit := init_tuple_lookup
  have hmh := madeHere_tuple
  have hTI := R.1
  wp_walk using wpAny_typeOf hTI, collectX hA R hn
  intro s' xs acc hl hi va
  show wpAny _ _ (Builtin.Tuple.tupleExact acc.toArray >>= fun v => ret v) _ _ _
  unfold Builtin.Tuple.tupleExact
  refine wpAny_bind (wpAny_newObj_type ?_ (by show acc.toArray.size ≤ sizeLine; rw [List.size_toArray, ← va.length, hl]; exact hn))
  refine wpAny_pure ?_
  exact h s' xs acc hl hi va
theorem call_tupleX {Q : Value → Shared → Prop} (hr : Room k X.A) (R : GRdy X pins σ n W a s) (hn : n ≤ sizeLine)
    (hQ : ∀ s' xs acc, xs.length = n → (∃ i H, Inv X pins σ H s' ∧ W i xs H) → Vals xs acc → Q (.ref s'.heap.objs.size) { s' with heap := s'.heap.push { cls := .type "tuple", data := .seq acc.toArray } }) :
    wpAny (model X.prog X.w) X.A (call (.type "tuple") [.ref a]) Q E s := by
  refine callType_codes (Q₁ := fun obj s₁ => s₁.TypeIs obj "tuple" ∧ Q obj s₁) F.called_tuple (F.typeCall_tuple_1 _) F.entry_object_init
    (tuple_newX (AOk.in3 hr) R hn fun s' xs acc hl hi va => ⟨⟨_, Heap.get?_push_size _ rfl, rfl⟩, hQ s' xs acc hl hi va⟩) fun obj s₁ h₁ => ?_
  exact ⟨h₁.1, F.args_object_init_2 obj _, object_init_meets F.called_tuple.init.lookup F.called_tuple.made (by decide) X.prog X.w X.A.in1 _ s₁ ⟨h₁.1, rfl, h₁.2⟩⟩
end
end L2
set_option linter.all false
set_option Elab.async false
set_option maxRecDepth 100000
set_option maxHeartbeats 1000000
namespace L2
open PySem PySem.Spec PyProof.Rows
def tGen (P : Addr) (wi : TI) (gt : TG) (tt : TT) (te : TE) (vs : List Nat) (σ : St) (H : Hp) (Kon : Nat → Nat → (Nat → List V → Hp → Prop) → Prop) : Prop :=
  wi σ H fun J H1 => ∃ ps, H1 P = some (.tbl ps) ∧ TriplesOk ps.toList ∧ ∀ ps' : Array Value, TriplesOk ps'.toList → ∃ n N W, GWord J (wipe σ vs) vs gt tt te n N W ∧ W 0 [] (upd H1 P (.tbl ps')) ∧ Kon n N W
def tTupG (P : Addr) (wi : TI) (gt : TG) (tt : TT) (te : TE) (vs : List Nat) : TE := fun σ H Q => tGen P wi gt tt te vs σ H fun n _ W => n ≤ sizeLine ∧ ∀ i xs H, W i xs H → xs.length = n → ∀ p, H p = none → Q (.ref p) (upd H p (.tup xs))
section
variable {X : Cx} {c P : Addr} {k : Nat} {elt tg iter : Expr} {ifs : List Expr} {scope : Scope} {own : List (Str × Nat)} {pos cpos : Pos} {wi : TI} {gt : TG} {tt : TT} {te : TE} {x : Str} {p : Pos}
theorem gen_arg {pins : List (Addr × Obj)} {s : Shared} {σ : St} {H : Hp} {Kon : Nat → Nat → (Nat → List V → Hp → Prop) → Prop} {Q : List Value → Shared → Prop}
    (hr : Room (k + 1) X.A) (G : GenCx X c P) (hc : X.calm = true) (hN : X.N.Nodup) (I : Inv X pins σ H s) (hi : PI X tg iter wi) (ok : BlkOk X.N X.env.scope scope own)
    (hnc : ∀ y ∈ scope.names, y.2 ≠ .cell) (h0 : scope.names.lookup (".0" : Str) = some NameKind.local) (hco : scope.isCoroutine = false)
    (hg : ∀ (A' : Around) (s : Shared) (H : Hp) (cl : List (Str × Addr)) (C : Addr) (code : Value) (fp : List Addr), PG (X.gblk A' s H (genEnv scope cl C code builtinsNs X.env) fp) tg gt)
    (ht : ∀ (A' : Around) (s : Shared) (H : Hp) (cl : List (Str × Addr)) (C : Addr) (code : Value) (fp : List Addr), Room k A' → PTs (X.gblk A' s H (genEnv scope cl C code builtinsNs X.env) fp) ifs tt)
    (he : ∀ (A' : Around) (s : Shared) (H : Hp) (cl : List (Str × Addr)) (C : Addr) (code : Value) (fp : List Addr), Room k A' → PE (X.gblk A' s H (genEnv scope cl C code builtinsNs X.env) fp) elt te)
    (hs : ∀ x, genFold iter X.env x = pure x) (h : tGen P wi gt tt te (own.map (·.2)) σ H Kon)
    (hQ : ∀ n N W a s5, Kon n N W → GRdy X pins σ n W a s5 → Q [.ref a] s5) :
    wpAny (model X.prog X.w) X.A (spliced (backTo cpos (starEach [.GeneratorExp elt [⟨tg, iter, ifs, 0⟩] scope pos] X.env))) Q X.xe s := by
  show wpAny _ _ (spliced ((false, eval (.GeneratorExp elt [⟨tg, iter, ifs, 0⟩] scope pos) X.env) :: backTo cpos (starEach [] X.env))) _ _ s
  exact Calls.spliced_cons (gen_make hr G hc hN I hi ok hnc h0 hco hg ht he hs h fun n N W a s5 kon R => Calls.spliced_nil (hQ n N W a s5 kon R))
theorem pe_tupG (hr : Room (k + 1) X.A) (G : GenCx X c P) (hg0 : Gl X "tuple") (hm : X.mg "tuple" = none) (hc : X.calm = true) (hN : X.N.Nodup) (hi : PI X tg iter wi) (ok : BlkOk X.N X.env.scope scope own)
    (hnc : ∀ y ∈ scope.names, y.2 ≠ .cell) (h0 : scope.names.lookup (".0" : Str) = some NameKind.local) (hco : scope.isCoroutine = false)
    (hg : ∀ (A' : Around) (s : Shared) (H : Hp) (cl : List (Str × Addr)) (C : Addr) (code : Value) (fp : List Addr), PG (X.gblk A' s H (genEnv scope cl C code builtinsNs X.env) fp) tg gt)
    (ht : ∀ (A' : Around) (s : Shared) (H : Hp) (cl : List (Str × Addr)) (C : Addr) (code : Value) (fp : List Addr), Room k A' → PTs (X.gblk A' s H (genEnv scope cl C code builtinsNs X.env) fp) ifs tt)
    (he : ∀ (A' : Around) (s : Shared) (H : Hp) (cl : List (Str × Addr)) (C : Addr) (code : Value) (fp : List Addr), Room k A' → PE (X.gblk A' s H (genEnv scope cl C code builtinsNs X.env) fp) elt te)
    (hs : ∀ x, genFold iter X.env x = pure x := by intro _; rfl) :
    PE X (.Call (.Name "tuple" p) [.GeneratorExp elt [⟨tg, iter, ifs, 0⟩] scope pos] [] cpos) (tTupG P wi gt tt te (own.map (·.2))) := by
  intro pins s σ H Q I h
  refine wpAny_Call_Name_kw (ld_blt I hg0 hm (by decide +kernel : bootBuiltins "tuple" = some (.type "tuple")) ?_ (by decide) (by decide))
  refine PyProof.Rows.callWith_type1 (gen_arg hr G hc hN I hi ok hnc h0 hco hg ht he hs h fun n N W a s5 kon R => ?_) rfl rfl
  obtain ⟨hn, hq⟩ := kon
  refine call_tupleX hr R hn fun s' xs acc hl hi va => ?_
  obtain ⟨i, H, J, hw⟩ := hi
  have hf : H s'.heap.objs.size = none := J.hok.fresh (Nat.le_refl _)
  refine ⟨.ref s'.heap.objs.size, upd H s'.heap.objs.size (.tup xs), J.laid (t' := s'.toks) (fun b u e => Heap.get?_push_of_some _ e) (Nat.le_refl _) ?_, rfl, hq i xs H hw hl _ hf⟩
  exact ⟨by rw [hl]; exact hn, acc, va, ⟨_, Heap.get?_push_size _ rfl, rfl, _, rfl, rfl⟩⟩
end
end L2
set_option linter.all false
set_option Elab.async false
set_option maxRecDepth 100000
set_option maxHeartbeats 1000000
namespace UM
open PySem L2
inductive U where
  | non | bl (b : Bool) | int (i : Int) | str (x : Str) | tup (xs : List U) | lst (xs : List U) | dct (kvs : List (Key × U)) | town | scr
  deriving Inhabited
mutual
/-- the value v stands for u; F: the addresses that stand still; t: the town, sc: the script -/
inductive Rep (t sc : Addr) (F : Addr → Prop) (H : Hp) : V → U → Prop
  | non : Rep t sc F H .non .non
  | bl (b : Bool) : Rep t sc F H (.bl b) (.bl b)
  | int (i : Int) : Rep t sc F H (.int i) (.int i)
  | str (x : Str) : Rep t sc F H (.str x) (.str x)
  | tup {a : Addr} {vs : List V} {us : List U} : F a → H a = some (.tup vs) → Reps t sc F H vs us → Rep t sc F H (.ref a) (.tup us)
  | lst {a : Addr} {vs : List V} {us : List U} : F a → H a = some (.lst vs) → Reps t sc F H vs us → Rep t sc F H (.ref a) (.lst us)
  | dct {a : Addr} {kvs : List (Key × V)} {kus : List (Key × U)} : F a → Rd H a (.dK kvs) → RepK t sc F H kvs kus → Rep t sc F H (.ref a) (.dct kus)
  | town : Rep t sc F H (.ref t) .town
  | scr : Rep t sc F H (.ref sc) .scr
inductive Reps (t sc : Addr) (F : Addr → Prop) (H : Hp) : List V → List U → Prop
  | nil : Reps t sc F H [] []
  | cons {v : V} {u : U} {vs : List V} {us : List U} : Rep t sc F H v u → Reps t sc F H vs us → Reps t sc F H (v :: vs) (u :: us)
inductive RepK (t sc : Addr) (F : Addr → Prop) (H : Hp) : List (Key × V) → List (Key × U) → Prop
  | nil : RepK t sc F H [] []
  | cons {k : Key} {v : V} {u : U} {vs : List (Key × V)} {us : List (Key × U)} : Rep t sc F H v u → RepK t sc F H vs us → RepK t sc F H ((k, v) :: vs) ((k, u) :: us)
end
structure MoW (F : Addr → Prop) (H : Hp) (F' : Addr → Prop) (H' : Hp) : Prop where
  f : ∀ a, F a → F' a
  t : ∀ a vs, F a → H a = some (.tup vs) → H' a = some (.tup vs)
  l : ∀ a vs, F a → H a = some (.lst vs) → H' a = some (.lst vs)
  d : ∀ a vs, F a → Rd H a (.dK vs) → Rd H' a (.dK vs)
structure Mo (F : Addr → Prop) (H : Hp) (F' : Addr → Prop) (H' : Hp) : Prop where
  f : ∀ a, F a → F' a
  h : ∀ a u, F a → H a = some u → H' a = some u
theorem Mo.refl {F : Addr → Prop} {H : Hp} : Mo F H F H := ⟨fun _ h => h, fun _ _ _ h => h⟩
theorem Mo.trans {F F1 F2 : Addr → Prop} {H H1 H2 : Hp} (a : Mo F H F1 H1) (b : Mo F1 H1 F2 H2) : Mo F H F2 H2 := ⟨fun x h => b.f x (a.f x h), fun x u h r => b.h x u (a.f x h) (a.h x u h r)⟩
theorem Mo.rd {F F' : Addr → Prop} {H H' : Hp} (m : Mo F H F' H') {a : Addr} {u : HO} (f : F a) (r : Rd H a u) : Rd H' a u := by
  rcases r with h | ⟨o, h⟩
  · exact .inl (m.h a _ f h)
  · exact .inr ⟨o, m.h a _ f h⟩
theorem Mo.w {F F' : Addr → Prop} {H H' : Hp} (m : Mo F H F' H') : MoW F H F' H' := ⟨m.f, fun a vs f h => m.h a _ f h, fun a vs f h => m.h a _ f h, fun a vs f r => m.rd f r⟩
section
variable {t sc : Addr} {F F' : Addr → Prop} {H H' : Hp}
mutual
theorem Rep.monoW (m : MoW F H F' H') : ∀ {v : V} {u : U}, Rep t sc F H v u → Rep t sc F' H' v u
  | _, _, .non => .non
  | _, _, .bl b => .bl b
  | _, _, .int i => .int i
  | _, _, .str x => .str x
  | _, _, .tup f r h => .tup (m.f _ f) (m.t _ _ f r) (Reps.monoW m h)
  | _, _, .lst f r h => .lst (m.f _ f) (m.l _ _ f r) (Reps.monoW m h)
  | _, _, .dct f r h => .dct (m.f _ f) (m.d _ _ f r) (RepK.monoW m h)
  | _, _, .town => .town
  | _, _, .scr => .scr
theorem Reps.monoW (m : MoW F H F' H') : ∀ {vs : List V} {us : List U}, Reps t sc F H vs us → Reps t sc F' H' vs us
  | _, _, .nil => .nil
  | _, _, .cons h r => .cons (Rep.monoW m h) (Reps.monoW m r)
theorem RepK.monoW (m : MoW F H F' H') : ∀ {vs : List (Key × V)} {us : List (Key × U)}, RepK t sc F H vs us → RepK t sc F' H' vs us
  | _, _, .nil => .nil
  | _, _, .cons h r => .cons (Rep.monoW m h) (RepK.monoW m r)
end
theorem Rep.mono {v : V} {u : U} (r : Rep t sc F H v u) (m : Mo F H F' H') : Rep t sc F' H' v u := r.monoW m.w
theorem Reps.mono {v : List V} {u : List U} (r : Reps t sc F H v u) (m : Mo F H F' H') : Reps t sc F' H' v u := r.monoW m.w
theorem RepK.mono {v : List (Key × V)} {u : List (Key × U)} (r : RepK t sc F H v u) (m : Mo F H F' H') : RepK t sc F' H' v u := r.monoW m.w
theorem Reps.length : ∀ {vs : List V} {us : List U}, Reps t sc F H vs us → vs.length = us.length
  | _, _, .nil => rfl
  | _, _, .cons _ r => by simp [Reps.length r]
theorem Reps.append : ∀ {vs ws : List V} {us xs : List U}, Reps t sc F H vs us → Reps t sc F H ws xs → Reps t sc F H (vs ++ ws) (us ++ xs)
  | _, _, _, _, .nil, s => s
  | _, _, _, _, .cons h r, s => .cons h (Reps.append r s)
theorem Reps.get : ∀ {vs : List V} {us : List U} {i : Nat} {u : U}, Reps t sc F H vs us → us[i]? = some u → ∃ v, vs[i]? = some v ∧ Rep t sc F H v u
  | _, _, _, _, .nil, e => by simp at e
  | _, _, 0, _, .cons h _, e => by simp at e; subst e; exact ⟨_, rfl, h⟩
  | _, _, i + 1, u, .cons _ r, e => by
    obtain ⟨v, h1, h2⟩ := Reps.get (i := i) (u := u) r (by simpa using e)
    exact ⟨v, by simpa using h1, h2⟩
theorem Reps.getV : ∀ {vs : List V} {us : List U} {i : Nat} {v : V}, Reps t sc F H vs us → vs[i]? = some v → ∃ u, us[i]? = some u ∧ Rep t sc F H v u
  | _, _, _, _, .nil, e => by simp at e
  | _, _, 0, _, .cons h _, e => by simp at e; subst e; exact ⟨_, rfl, h⟩
  | _, _, i + 1, v, .cons _ r, e => by
    obtain ⟨u, h1, h2⟩ := Reps.getV (i := i) (v := v) r (by simpa using e)
    exact ⟨u, by simpa using h1, h2⟩
end
structure Tb where
  ps : List Addr
  ns : List Int
structure Gx where
  t : Addr
  sc : Addr
  K : PySem.W.Frag
  Ps : Tb
  H0 : Hp
  F0 : Addr → Prop
structure GOk (G : Gx) : Prop where
  st : (Rd G.H0 G.sc (.lst (G.Ps.ns.map V.int)) ∧ G.sc ≠ G.t ∧ ¬ G.F0 G.sc) ∨
    ∃ (o : Obj) (its : Array Value) (n : Nat), G.K.lookup G.sc = some o ∧ o.cls = .type "list" ∧ o.dict = none ∧ o.data = .seq its n ∧ its.size ≤ sizeLine ∧ Vals (G.Ps.ns.map V.int) its.toList
structure Base (G : Gx) (F : Addr → Prop) (H : Hp) (k : Nat) : Prop where
  ok : GOk G
  nn : ∀ a, H a = none → G.H0 a = none
  fr : ∀ a o, G.H0 a = some o → a ≠ G.t → (∀ ps, o ≠ .tbl ps) → ¬ G.F0 a → H a = some o
  f0 : ∀ a, G.F0 a → F a
  fF : ∀ a, F a → G.F0 a ∨ G.H0 a = none
  fd : ∀ a, F a → ∃ u, H a = some u ∧ ∀ ps, u ≠ .tbl ps
  ft : ¬ F G.t
  tw : ∃ l, H G.t = some (.lst l) ∧ l.length = k
  tb : ∀ P ∈ G.Ps.ps, ∃ ps, H P = some (.tbl ps) ∧ TriplesOk ps.toList
section
variable {G : Gx} {F : Addr → Prop} {H : Hp} {k : Nat}
theorem Base.scR (B : Base G F H k) : (Rd H G.sc (.lst (G.Ps.ns.map V.int)) ∧ G.sc ≠ G.t ∧ ¬ G.F0 G.sc ∧ G.H0 G.sc ≠ none) ∨ ∃ (o : Obj) (its : Array Value) (n : Nat), G.K.lookup G.sc = some o ∧ o.cls = .type "list" ∧ o.dict = none ∧ o.data = .seq its n ∧ its.size ≤ sizeLine ∧ Vals (G.Ps.ns.map V.int) its.toList := by
  rcases B.ok.st with ⟨h | ⟨o, h⟩, ts, sF⟩ | h
  · exact .inl ⟨.inl (B.fr _ _ h ts (by intro ps z; cases z) sF), ts, sF, by rw [h]; simp⟩
  · exact .inl ⟨.inr ⟨o, B.fr _ _ h ts (by intro ps z; cases z) sF⟩, ts, sF, by rw [h]; simp⟩
  · exact .inr h
theorem Base.sc (B : Base G F H k) : SqL G.K H G.sc (G.Ps.ns.map V.int) := by
  rcases B.scR with ⟨h, _⟩ | h
  · exact .inl h
  · exact .inr h
theorem hs_ne {p a : Addr} {o u : HO} (ne : a ≠ p) (r : H a = some u) : upd H p o a = some u := by
  rw [upd_ne ne]; exact r
theorem hs_upd {p a : Addr} {o u : HO} (hp : H p = none) (r : H a = some u) : upd H p o a = some u := hs_ne (fun z => by rw [z, hp] at r; cases r) r
theorem Base.alloc (B : Base G F H k) {p : Addr} {o : HO} (hp : H p = none) (ho : ∀ ps, o ≠ .tbl ps) : Base G (fun a => F a ∨ a = p) (upd H p o) k ∧ Mo F H (fun a => F a ∨ a = p) (upd H p o) := by
  have n0 : G.H0 p = none := B.nn p hp
  have nF : ¬ F p := fun h => by
    obtain ⟨u, r, _⟩ := B.fd p h
    rw [hp] at r; cases r
  have nt : G.t ≠ p := fun z => by
    obtain ⟨l, h, _⟩ := B.tw
    rw [z, hp] at h; cases h
  refine ⟨⟨B.ok, fun a h => ?_, fun a u h1 h2 h3 h4 => ?_, fun a h => .inl (B.f0 a h), fun a h => ?_, fun a h => ?_, fun h => ?_, ?_, fun P hP => ?_⟩, ⟨fun a h => .inl h, fun a u _ r => hs_upd hp r⟩⟩
  · by_cases z : a = p
    · subst z; exact n0
    · rw [upd_ne z] at h; exact B.nn a h
  · have ne : a ≠ p := fun z => by rw [z, n0] at h1; cases h1
    rw [upd_ne ne]; exact B.fr a u h1 h2 h3 h4
  · rcases h with h | rfl
    · exact B.fF a h
    · exact .inr n0
  · rcases h with h | rfl
    · obtain ⟨u, r, q⟩ := B.fd a h
      exact ⟨u, hs_upd hp r, q⟩
    · exact ⟨o, upd_same, ho⟩
  · rcases h with h | h
    · exact B.ft h
    · exact nt h
  · obtain ⟨l, h, e⟩ := B.tw
    exact ⟨l, by rw [upd_ne nt]; exact h, e⟩
  · obtain ⟨ps, h, q⟩ := B.tb P hP
    exact ⟨ps, by rw [upd_ne (ne_of_none h hp)]; exact h, q⟩
theorem Base.allocO (B : Base G F H k) {p : Addr} {o : HO} (hp : H p = none) : Base G F (upd H p o) k ∧ Mo F H F (upd H p o) ∧ ¬ F p ∧ p ≠ G.t ∧ G.H0 p = none := by
  have n0 : G.H0 p = none := B.nn p hp
  have nF : ¬ F p := fun h => by
    obtain ⟨u, r, _⟩ := B.fd p h
    rw [hp] at r; cases r
  have nt : G.t ≠ p := fun z => by
    obtain ⟨l, h, _⟩ := B.tw
    rw [z, hp] at h; cases h
  refine ⟨⟨B.ok, fun a h => ?_, fun a u h1 h2 h3 h4 => ?_, B.f0, B.fF, fun a h => ?_, B.ft, ?_, fun P hP => ?_⟩, ⟨fun a h => h, fun a u _ r => hs_upd hp r⟩, nF, nt.symm, n0⟩
  · by_cases z : a = p
    · subst z; exact n0
    · rw [upd_ne z] at h; exact B.nn a h
  · have ne : a ≠ p := fun z => by rw [z, n0] at h1; cases h1
    rw [upd_ne ne]; exact B.fr a u h1 h2 h3 h4
  · obtain ⟨u, r, q⟩ := B.fd a h
    exact ⟨u, hs_upd hp r, q⟩
  · obtain ⟨l, h, e⟩ := B.tw
    exact ⟨l, by rw [upd_ne nt]; exact h, e⟩
  · obtain ⟨ps, h, q⟩ := B.tb P hP
    exact ⟨ps, by rw [upd_ne (ne_of_none h hp)]; exact h, q⟩
theorem Base.write (B : Base G F H k) {p : Addr} {o u : HO} (hp : H p = some u) (hu : ∀ ps, u ≠ .tbl ps) (nF : ¬ F p) (nt : p ≠ G.t) (n0 : G.H0 p = none) : Base G F (upd H p o) k ∧ Mo F H F (upd H p o) := by
  have neF : ∀ a, F a → a ≠ p := fun a h z => nF (z ▸ h)
  refine ⟨⟨B.ok, fun a h => ?_, fun a u h1 h2 h3 h4 => ?_, B.f0, B.fF, fun a h => ?_, B.ft, ?_, fun P hP => ?_⟩, ⟨fun a h => h, fun a u h r => hs_ne (neF a h) r⟩⟩
  · by_cases z : a = p
    · subst z; exact n0
    · rw [upd_ne z] at h; exact B.nn a h
  · have ne : a ≠ p := fun z => by rw [z, n0] at h1; cases h1
    rw [upd_ne ne]; exact B.fr a u h1 h2 h3 h4
  · obtain ⟨u, r, q⟩ := B.fd a h
    exact ⟨u, hs_ne (neF a h) r, q⟩
  · obtain ⟨l, h, e⟩ := B.tw
    exact ⟨l, by rw [upd_ne nt.symm]; exact h, e⟩
  · obtain ⟨ps, h, q⟩ := B.tb P hP
    exact ⟨ps, by rw [upd_ne (ne_of h hp (fun z => hu ps z.symm))]; exact h, q⟩
theorem Base.share (B : Base G F H k) {p : Addr} {u : HO} (hp : H p = some u) (hu : ∀ ps, u ≠ .tbl ps) (nt : p ≠ G.t) (n0 : G.H0 p = none) : Base G (fun a => F a ∨ a = p) H k ∧ Mo F H (fun a => F a ∨ a = p) H := by
  refine ⟨⟨B.ok, B.nn, B.fr, fun a h => .inl (B.f0 a h), fun a h => ?_, fun a h => ?_, fun h => ?_, B.tw, B.tb⟩, ⟨fun a h => .inl h, fun a u _ r => r⟩⟩
  · rcases h with h | rfl
    · exact B.fF a h
    · exact .inr n0
  · rcases h with h | rfl
    · exact B.fd a h
    · exact ⟨u, hp, hu⟩
  · rcases h with h | h
    · exact B.ft h
    · exact nt h.symm
theorem Base.town (B : Base G F H k) {l : List V} (x : V) (h : H G.t = some (.lst l)) : Base G F (upd H G.t (.lst (l ++ [x]))) (k + 1) ∧ Mo F H F (upd H G.t (.lst (l ++ [x]))) := by
  have neF : ∀ a, F a → a ≠ G.t := fun a h z => B.ft (z ▸ h)
  obtain ⟨l', h', e⟩ := B.tw
  rw [h] at h'; cases h'
  refine ⟨⟨B.ok, fun a h => ?_, fun a u h1 h2 h3 h4 => ?_, B.f0, B.fF, fun a h => ?_, B.ft, ⟨_, upd_same, by simp [e]⟩, fun P hP => ?_⟩, ⟨fun a h => h, fun a u h r => hs_ne (neF a h) r⟩⟩
  · by_cases z : a = G.t
    · rw [z, upd_same] at h; cases h
    · rw [upd_ne z] at h; exact B.nn a h
  · rw [upd_ne h2]; exact B.fr a u h1 h2 h3 h4
  · obtain ⟨u, r, q⟩ := B.fd a h
    exact ⟨u, hs_ne (neF a h) r, q⟩
  · obtain ⟨ps, h2, q⟩ := B.tb P hP
    exact ⟨ps, by rw [upd_ne (ne_of h2 h (fun z => by cases z))]; exact h2, q⟩
theorem Base.table (B : Base G F H k) {P : Addr} {ps ps' : Array Value} (h : H P = some (.tbl ps)) (hP : P ∈ G.Ps.ps) (ht : TriplesOk ps'.toList) : Base G F (upd H P (.tbl ps')) k ∧ Mo F H F (upd H P (.tbl ps')) := by
  have neF : ∀ a, F a → a ≠ P := fun a hF z => by
    obtain ⟨u, r, q⟩ := B.fd a hF
    rw [z, h] at r; cases r; exact q ps rfl
  refine ⟨⟨B.ok, fun a h' => ?_, fun a u h1 h2 h3 h4 => ?_, B.f0, B.fF, fun a h => ?_, B.ft, ?_, fun Q hQ => ?_⟩, ⟨fun a h => h, fun a u h r => hs_ne (neF a h) r⟩⟩
  · by_cases z : a = P
    · rw [z, upd_same] at h'; cases h'
    · rw [upd_ne z] at h'; exact B.nn a h'
  · have q := B.fr a u h1 h2 h3 h4
    have ne : a ≠ P := fun z => by rw [z, h] at q; cases q; exact h3 ps rfl
    rw [upd_ne ne]; exact q
  · obtain ⟨u, r, q⟩ := B.fd a h
    exact ⟨u, hs_ne (neF a h) r, q⟩
  · obtain ⟨l, h', e⟩ := B.tw
    exact ⟨l, by rw [upd_ne (ne_of h' h (fun z => by cases z))]; exact h', e⟩
  · by_cases z : Q = P
    · subst z; exact ⟨ps', upd_same, ht⟩
    · obtain ⟨p2, h2, q⟩ := B.tb Q hQ
      exact ⟨p2, by rw [upd_ne z]; exact h2, q⟩
theorem Base.enter (B : Base G F H k) : Base { G with H0 := H, F0 := F } F H k := by
  refine ⟨⟨?_⟩, fun _ h => h, fun _ _ h _ _ _ => h, fun _ h => h, fun _ h => .inl h, B.fd, B.ft, B.tw, B.tb⟩
  rcases B.scR with ⟨h, ts, sF, hn⟩ | h
  · refine .inl ⟨h, ts, fun z => ?_⟩
    rcases B.fF _ z with z | z
    · exact sF z
    · exact hn z
  · exact .inr h
theorem Base.leave (B : Base G F H k) {F' : Addr → Prop} {H' : Hp} {k' : Nat} (C : Base { G with H0 := H, F0 := F } F' H' k') : Base G F' H' k' := by
  refine ⟨B.ok, fun a h => B.nn a (C.nn a h), fun a o h1 h2 h3 h4 => ?_, fun a h => C.f0 a (B.f0 a h), fun a h => ?_, C.fd, C.ft, C.tw, C.tb⟩
  · have h5 := B.fr a o h1 h2 h3 h4
    refine C.fr a o h5 h2 h3 fun z => ?_
    rcases B.fF a z with z | z
    · exact h4 z
    · rw [h1] at z; cases z
  · rcases C.fF a h with z | z
    · exact B.fF a z
    · exact .inr (B.nn a z)
end
end UM
set_option linter.all false
set_option Elab.async false
set_option maxRecDepth 100000
set_option maxHeartbeats 1000000
namespace UM
open PySem L2
abbrev En := List (Option U)
abbrev EM := En → Nat → Option (U × Nat)
abbrev AM := En → Nat → Option (List U × Nat)
abbrev BM := En → Nat → Option (Bool × Nat)
inductive Ctl where
  | nx (env : En) | rt (u : U) | bk (env : En) | ct (env : En)
abbrev SM := En → Nat → Option (Ctl × Nat)
def OwnC (t sc : Addr) (F : Addr → Prop) (H : Hp) (a : Addr) : U → Prop
  | .lst us => ∃ vs, H a = some (.lst vs) ∧ Reps t sc F H vs us
  | .dct kus => ∃ kvs, H a = some (.dK kvs) ∧ RepK t sc F H kvs kus
  | _ => False
structure Own (G : Gx) (F : Addr → Prop) (H : Hp) (a : Addr) (u : U) : Prop where
  nF : ¬ F a
  nt : a ≠ G.t
  n0 : G.H0 a = none
  c : OwnC G.t G.sc F H a u
structure SR (K : PySem.W.Frag) (Ps : Tb) (G : Gx) (O : List Nat) (F : Addr → Prop) (H : Hp) (σ : St) (env : En) (k : Nat) : Prop where
  hK : G.K = K
  hP : G.Ps = Ps
  b : Base G F H k
  len : σ.length = env.length
  sl : ∀ i u, i ∉ O → env[i]? = some (some u) → ∃ v, σ[i]? = some (some v) ∧ Rep G.t G.sc F H v u
  ow : ∀ i, i ∈ O → ∀ u, env[i]? = some (some u) → ∃ a, σ[i]? = some (some (.ref a)) ∧ Own G F H a u
  ap : ∀ i j a, i ∈ O → j ∈ O → (∃ u, env[i]? = some (some u)) → (∃ u, env[j]? = some (some u)) → σ[i]? = some (some (.ref a)) → σ[j]? = some (some (.ref a)) → i = j
structure Stp (G : Gx) (F : Addr → Prop) (H : Hp) (F' : Addr → Prop) (H' : Hp) : Prop where
  mo : Mo F H F' H'
  ow : ∀ a u, ¬ F a → a ≠ G.t → G.H0 a = none → H a = some u → (∀ ps, u ≠ .tbl ps) → ¬ F' a ∧ H' a = some u
section
variable {K : PySem.W.Frag} {Ps : Tb} {G : Gx} {O : List Nat} {F F' F'' : Addr → Prop} {H H' H'' : Hp} {σ : St} {env : En} {k k' : Nat}
theorem Stp.refl : Stp G F H F H := ⟨.refl, fun _ _ n _ _ h _ => ⟨n, h⟩⟩
theorem Stp.trans (a : Stp G F H F' H') (b : Stp G F' H' F'' H'') : Stp G F H F'' H'' := ⟨a.mo.trans b.mo, fun x u n t z h q => let ⟨n1, h1⟩ := a.ow x u n t z h q; b.ow x u n1 t z h1 q⟩
theorem OwnC.step {a : Addr} {u : U} (h : OwnC G.t G.sc F H a u) (s : Stp G F H F' H') (nF : ¬ F a) (nt : a ≠ G.t) (n0 : G.H0 a = none) : ¬ F' a ∧ OwnC G.t G.sc F' H' a u := by
  cases u with
  | lst us =>
    obtain ⟨vs, e, r⟩ := h
    obtain ⟨n1, e1⟩ := s.ow a _ nF nt n0 e (by intro ps z; cases z)
    exact ⟨n1, vs, e1, r.mono s.mo⟩
  | dct us =>
    obtain ⟨vs, e, r⟩ := h
    obtain ⟨n1, e1⟩ := s.ow a _ nF nt n0 e (by intro ps z; cases z)
    exact ⟨n1, vs, e1, r.mono s.mo⟩
  | _ => exact h.elim
theorem SR.step (S : SR K Ps G O F H σ env k) (s : Stp G F H F' H') (b : Base G F' H' k') : SR K Ps G O F' H' σ env k' :=
  ⟨S.hK, S.hP, b, S.len, fun i u hi e => let ⟨v, h1, h2⟩ := S.sl i u hi e; ⟨v, h1, h2.mono s.mo⟩, fun i hi u e => by
    obtain ⟨a, h1, o⟩ := S.ow i hi u e
    obtain ⟨n1, c1⟩ := o.c.step s o.nF o.nt o.n0
    exact ⟨a, h1, n1, o.nt, o.n0, c1⟩, S.ap⟩
theorem stp_alloc (B : Base G F H k) {p : Addr} {o : HO} (hp : H p = none) (ho : ∀ ps, o ≠ .tbl ps) : Stp G F H (fun a => F a ∨ a = p) (upd H p o) :=
  ⟨(B.alloc hp ho).2, fun a u n _ _ h _ => by
    have ne := ne_of_none h hp
    exact ⟨fun z => z.elim n ne, by rw [upd_ne ne]; exact h⟩⟩
theorem stp_allocO (B : Base G F H k) {p : Addr} {o : HO} (hp : H p = none) : Stp G F H F (upd H p o) :=
  ⟨(B.allocO hp).2.1, fun a u n _ _ h _ => by
    have ne := ne_of_none h hp
    exact ⟨n, by rw [upd_ne ne]; exact h⟩⟩
theorem stp_table (B : Base G F H k) {P : Addr} {ps ps' : Array Value} (h : H P = some (.tbl ps)) (hP : P ∈ G.Ps.ps) (ht : TriplesOk ps'.toList) : Stp G F H F (upd H P (.tbl ps')) :=
  ⟨(B.table h hP ht).2, fun a u n _ _ e q => by
    have ne : a ≠ P := fun z => by rw [z, h] at e; cases e; exact q ps rfl
    exact ⟨n, by rw [upd_ne ne]; exact e⟩⟩
theorem stp_town (B : Base G F H k) {l : List V} (x : V) (h : H G.t = some (.lst l)) : Stp G F H F (upd H G.t (.lst (l ++ [x]))) :=
  ⟨(B.town x h).2, fun a u n nt _ e _ => ⟨n, by rw [upd_ne nt]; exact e⟩⟩
theorem stp_leave (B : Base G F H k) (C : Base { G with H0 := H, F0 := F } F' H' k') (mo : Mo F H F' H') : Stp G F H F' H' :=
  ⟨mo, fun a u n nt _ e q => And.intro (fun z => by
      rcases C.fF a z with z | z
      · exact n z
      · rw [show H a = none from z] at e
        cases e) (C.fr a u e nt q n)⟩
theorem SR.wipe1 (S : SR K Ps G O F H σ env k) (i : Nat) : SR K Ps G O F H (σ.set i none) (env.set i none) k := by
  have e1 : ∀ {j : Nat} {u : U}, (env.set i none)[j]? = some (some u) → env[j]? = some (some u) ∧ i ≠ j := fun {j u} h => by
    by_cases hij : i = j
    · subst hij
      by_cases hv : i < env.length
      · rw [List.getElem?_set_self hv] at h; cases h
      · rw [List.getElem?_eq_none (by simpa using hv)] at h; cases h
    · rw [List.getElem?_set_ne hij] at h; exact ⟨h, hij⟩
  refine ⟨S.hK, S.hP, S.b, by simp [S.len], fun j u hj e => ?_, fun j hj u e => ?_, fun x y a hx hy ⟨u, e⟩ ⟨u', e'⟩ s1 s2 => ?_⟩
  · obtain ⟨e, ne⟩ := e1 e
    rw [List.getElem?_set_ne ne]
    exact S.sl j u hj e
  · obtain ⟨e, ne⟩ := e1 e
    rw [List.getElem?_set_ne ne]
    exact S.ow j hj u e
  · obtain ⟨e, ne⟩ := e1 e
    obtain ⟨e', ne'⟩ := e1 e'
    rw [List.getElem?_set_ne ne] at s1
    rw [List.getElem?_set_ne ne'] at s2
    exact S.ap x y a hx hy ⟨u, e⟩ ⟨u', e'⟩ s1 s2
def wipeE (env : En) : List Nat → En
  | [] => env
  | v :: vs => (wipeE env vs).set v none
theorem SR.wipe (S : SR K Ps G O F H σ env k) : ∀ vs : List Nat, SR K Ps G O F H (L2.wipe σ vs) (wipeE env vs) k
  | [] => S
  | v :: vs => (S.wipe vs).wipe1 v
theorem SR.put (S : SR K Ps G O F H σ env k) {i : Nat} {v : V} {u : U} (hi : i ∉ O) (r : Rep G.t G.sc F H v u) : SR K Ps G O F H (σ.set i (some v)) (env.set i (some u)) k := by
  refine ⟨S.hK, S.hP, S.b, by simp [S.len], fun j u' hj e => ?_, fun j hj u' e => ?_, fun x y a hx hy ⟨u1, e⟩ ⟨u2, e'⟩ s1 s2 => ?_⟩
  · by_cases hij : i = j
    · subst hij
      by_cases hv : i < env.length
      · rw [List.getElem?_set_self hv] at e; cases e
        exact ⟨v, List.getElem?_set_self (by rw [S.len]; exact hv), r⟩
      · rw [List.getElem?_eq_none (by simpa using hv)] at e; cases e
    · rw [List.getElem?_set_ne hij] at e ⊢
      exact S.sl j u' hj e
  · have hij : i ≠ j := fun z => hi (z ▸ hj)
    rw [List.getElem?_set_ne hij] at e ⊢
    exact S.ow j hj u' e
  · have hix : i ≠ x := fun z => hi (z ▸ hx)
    have hiy : i ≠ y := fun z => hi (z ▸ hy)
    rw [List.getElem?_set_ne hix] at e s1
    rw [List.getElem?_set_ne hiy] at e' s2
    exact S.ap x y a hx hy ⟨u1, e⟩ ⟨u2, e'⟩ s1 s2
theorem SR.drop (S : SR K Ps G O F H σ env k) {O' : List Nat} (h1 : ∀ i ∈ O', i ∈ O) (h2 : ∀ i, i ∈ O → i ∉ O' → env[i]? = some none ∨ env[i]? = none) : SR K Ps G O' F H σ env k :=
  ⟨S.hK, S.hP, S.b, S.len, fun i u hi e => by
    by_cases ho : i ∈ O
    · rcases h2 i ho hi with z | z <;> rw [z] at e <;> cases e
    · exact S.sl i u ho e, fun i hi => S.ow i (h1 i hi), fun i j a hi hj => S.ap i j a (h1 i hi) (h1 j hj)⟩
theorem SR.putO (S : SR K Ps G O F H σ env k) {i : Nat} {a : Addr} {u : U} (hi : i ∈ O) (ow : Own G F H a u) (hf : ∀ j ∈ O, ∀ u', j ≠ i → env[j]? = some (some u') → σ[j]? ≠ some (some (.ref a))) :
    SR K Ps G O F H (σ.set i (some (.ref a))) (env.set i (some u)) k := by
  refine ⟨S.hK, S.hP, S.b, by simp [S.len], fun j u' hj e => ?_, fun j hj u' e => ?_, fun x y b hx hy ⟨u1, e⟩ ⟨u2, e'⟩ s1 s2 => ?_⟩
  · have hij : i ≠ j := fun z => hj (z ▸ hi)
    rw [List.getElem?_set_ne hij] at e ⊢
    exact S.sl j u' hj e
  · by_cases hij : i = j
    · subst hij
      by_cases hv : i < env.length
      · rw [List.getElem?_set_self hv] at e; cases e
        exact ⟨a, List.getElem?_set_self (by rw [S.len]; exact hv), ow⟩
      · rw [List.getElem?_eq_none (by simpa using hv)] at e; cases e
    · rw [List.getElem?_set_ne hij] at e ⊢
      exact S.ow j hj u' e
  · have key : ∀ {z : Nat} {w : U}, (env.set i (some u))[z]? = some (some w) → i < env.length ∨ i ≠ z := fun {z w} h => by
      by_cases hz : i = z
      · subst hz
        by_cases hv : i < env.length
        · exact .inl hv
        · rw [List.getElem?_eq_none (by simpa using hv)] at h; cases h
      · exact .inr hz
    by_cases hix : i = x
    · by_cases hiy : i = y
      · exact hix.symm.trans hiy
      · subst hix
        rw [List.getElem?_set_ne hiy] at e' s2
        rcases key e with hv | hv
        · rw [List.getElem?_set_self (by rw [S.len]; exact hv)] at s1
          cases s1
          exact absurd s2 (hf y hy u2 (Ne.symm hiy) e')
        · exact absurd rfl hv
    · rw [List.getElem?_set_ne hix] at e s1
      by_cases hiy : i = y
      · subst hiy
        rcases key e' with hv | hv
        · rw [List.getElem?_set_self (by rw [S.len]; exact hv)] at s2
          cases s2
          exact absurd s1 (hf x hx u1 (Ne.symm hix) e)
        · exact absurd rfl hv
      · rw [List.getElem?_set_ne hiy] at e' s2
        exact S.ap x y b hx hy ⟨u1, e⟩ ⟨u2, e'⟩ s1 s2
end
def tM (K : PySem.W.Frag) (Ps : Tb) (O : List Nat) (m : EM) : TE := fun σ H Q => ∃ G F env k u k', SR K Ps G O F H σ env k ∧ m env k = some (u, k') ∧ ∀ v H' F', SR K Ps G O F' H' σ env k' → Stp G F H F' H' → Rep G.t G.sc F' H' v u → Q v H'
def tMA (K : PySem.W.Frag) (Ps : Tb) (O : List Nat) (m : AM) : TA := fun σ H Q => ∃ G F env k us k', SR K Ps G O F H σ env k ∧ m env k = some (us, k') ∧ ∀ vs H' F', SR K Ps G O F' H' σ env k' → Stp G F H F' H' → Reps G.t G.sc F' H' vs us → Q vs H'
def tMB (K : PySem.W.Frag) (Ps : Tb) (O : List Nat) (m : BM) : TT := fun σ H Q => ∃ G F env k b k', SR K Ps G O F H σ env k ∧ m env k = some (b, k') ∧ ∀ H' F', SR K Ps G O F' H' σ env k' → Stp G F H F' H' → Q b H'
def CtlOk (K : PySem.W.Frag) (Ps : Tb) (G : Gx) (Ob O : List Nat) (F : Addr → Prop) (H : Hp) (D : Ends) (k : Nat) : Ctl → Prop
  | .nx env => ∀ σ' H' F', SR K Ps G O F' H' σ' env k → Mo F H F' H' → D.nx σ' H'
  | .bk env => ∀ σ' H' F', SR K Ps G Ob F' H' σ' env k → Mo F H F' H' → D.bk σ' H'
  | .ct env => ∀ σ' H' F', SR K Ps G Ob F' H' σ' env k → Mo F H F' H' → D.ct σ' H'
  | .rt u => ∀ v H' F', Base G F' H' k → Mo F H F' H' → Rep G.t G.sc F' H' v u → D.rt v H'
def tMS (K : PySem.W.Frag) (Ps : Tb) (Ob O O' : List Nat) (m : SM) : TS := fun D σ H => ∃ G F env k c k', SR K Ps G O F H σ env k ∧ m env k = some (c, k') ∧ CtlOk K Ps G Ob O' F H D k' c
structure PEV (X : Cx) (Ps : Tb) (O : List Nat) (e : Expr) (m : EM) : Prop where
  pe : PE X e (tM X.K Ps O m)
structure PAV (X : Cx) (Ps : Tb) (O : List Nat) (es : List Expr) (m : AM) : Prop where
  pa : PA X es (tMA X.K Ps O m)
structure PBV (X : Cx) (Ps : Tb) (O : List Nat) (e : Expr) (m : BM) : Prop where
  pt : PT X e (tMB X.K Ps O m)
structure PWV (X : Cx) (Ps : Tb) (O : List Nat) (e : Expr) (m : BM) : Prop where
  pw : PW X e (tMB X.K Ps O m)
structure PSV (X : Cx) (Ps : Tb) (Ob O O' : List Nat) (s : Stmt) (m : SM) : Prop where
  ps : PS X s (tMS X.K Ps Ob O O' m)
structure PSsV (X : Cx) (Ps : Tb) (Ob O O' : List Nat) (s : List Stmt) (m : SM) : Prop where
  ps : PSs X s (tMS X.K Ps Ob O O' m)
section
variable {X : Cx}
theorem impE {e : Expr} {t t' : TE} (h : PE X e t) (i : ∀ σ H Q, t' σ H Q → t σ H Q) : PE X e t' := fun pins s σ H Q I q => h pins s σ H Q I (i σ H Q q)
theorem impA {e : List Expr} {t t' : TA} (h : PA X e t) (i : ∀ σ H Q, t' σ H Q → t σ H Q) : PA X e t' := fun pos pins s σ H Q I q => h pos pins s σ H Q I (i σ H Q q)
theorem impT {e : Expr} {t t' : TT} (h : PT X e t) (i : ∀ σ H Q, t' σ H Q → t σ H Q) : PT X e t' := fun pins s σ H Q I q => h pins s σ H Q I (i σ H Q q)
theorem impW {e : Expr} {t t' : TT} (h : PW X e t) (i : ∀ σ H Q, t' σ H Q → t σ H Q) : PW X e t' := fun wh pins s σ H Q I q => h wh pins s σ H Q I (i σ H Q q)
theorem impS {e : Stmt} {t t' : TS} (h : PS X e t) (i : ∀ D σ H, t' D σ H → t D σ H) : PS X e t' := fun pins s σ H D I q => h pins s σ H D I (i D σ H q)
theorem impSs {e : List Stmt} {t t' : TS} (h : PSs X e t) (i : ∀ D σ H, t' D σ H → t D σ H) : PSs X e t' := fun pins s σ H D I q => h pins s σ H D I (i D σ H q)
theorem orE {e : Expr} {t t' : TE} (h : PE X e t) (h' : PE X e t') : PE X e (fun σ H Q => t σ H Q ∨ t' σ H Q) := fun pins s σ H Q I q => q.elim (h pins s σ H Q I) (h' pins s σ H Q I)
end
end UM
set_option linter.all false
set_option Elab.async false
set_option maxRecDepth 100000
set_option maxHeartbeats 1000000
namespace L2
open PySem PySem.Spec PyProof.Rows
theorem cat_tup0 {prog : Program} {w : World} {A : Around} {E : Value → Shared → Prop} {s : Shared} {t b : Addr} {ws : List Value} {Q : Value → Shared → Prop} (ht : IsTup s.heap t ([] : List Value).toArray) (hb : IsTup s.heap b ws.toArray) (h1 : Q (.ref b) s) : wpAny (model prog w) A (binaryOp .Add (.ref t) (.ref b)) Q E s := by
  obtain ⟨⟨cls, dd, data, sl⟩, ho, hc, n, hd⟩ := id ht
  obtain ⟨⟨cls2, dd2, data2, sl2⟩, ho2, hc2, n2, hd2⟩ := id hb
  simp only at hc hd hc2 hd2
  subst hc hd hc2 hd2
  exact concat_meets ⟨_, ho, rfl⟩ ⟨_, ho2, rfl⟩ noFill_tuple_add seq_tuple_add PySem.F.slot_tuple_add PySem.F.entry_tuple_add (PySem.F.args_tuple_add_2 _ _)
      (tuple_addW0 t b ([] : List Value).toArray ws.toArray n n2 dd dd2 sl sl2 (by simp)) ⟨ho, ho2, h1⟩
def rCatT0 (K : PySem.W.Frag) : R2 := fun x y H Q => ∃ a b ys, x = .ref a ∧ y = .ref b ∧ SqT K H a [] ∧ SqT K H b ys ∧ Q (.ref b) H
theorem op_catT0 {X : Cx} : OpR X (binaryOp .Add) (rCatT0 X.K) := by
  intro pins s σ H x y v u Q I rx ry h
  obtain ⟨a, b, ys, rfl, rfl, ha, hb, q⟩ := h
  cases rx
  cases ry
  obtain ⟨its, r1, p1, _⟩ := I.tuple ha
  obtain ⟨its2, r2, p2, _⟩ := I.tuple hb
  cases r1
  exact cat_tup0 p1 p2 ⟨.ref b, H, I, rfl, q⟩
end L2
namespace UM
open PySem L2
theorem ob {α β : Type} {o : Option α} {f : α → Option β} {b : β} (h : o.bind f = some b) : ∃ a, o = some a ∧ f a = some b := Option.bind_eq_some_iff.mp h
def eVar (i : Nat) : EM := fun env k => match env[i]? with | some (some u) => some (u, k) | _ => none
def eC (u : U) : EM := fun _ k => some (u, k)
def eBin (f : U → U → Option U) (a b : EM) : EM := fun env k => (a env k).bind fun x => (b env x.2).bind fun y => (f x.1 y.1).bind fun u => some (u, y.2)
def eUn (f : U → Option U) (a : EM) : EM := fun env k => (a env k).bind fun x => (f x.1).bind fun u => some (u, x.2)
def aNil : AM := fun _ k => some ([], k)
def aCons (a : EM) (r : AM) : AM := fun env k => (a env k).bind fun x => (r env x.2).bind fun y => some (x.1 :: y.1, y.2)
def eTup (a : AM) : EM := fun env k => (a env k).bind fun x => if x.1.length ≤ 1000 then some (.tup x.1, x.2) else none
def eLst (a : AM) : EM := fun env k => (a env k).bind fun x => if x.1.length ≤ 1000 then some (.lst x.1, x.2) else none
def eIf (c : BM) (a b : EM) : EM := fun env k => (c env k).bind fun x => if x.1 = true then a env x.2 else b env x.2
def bVal (a : EM) : BM := fun env k => (a env k).bind fun x => match x.1 with | .bl b => some (b, x.2) | _ => none
def bNot (a : BM) : BM := fun env k => (a env k).bind fun x => some (!x.1, x.2)
def bOr (a b : BM) : BM := fun env k => (a env k).bind fun x => if x.1 = true then some (true, x.2) else b env x.2
def eFn (f : List U → Option U) (a : AM) : EM := fun env k => (a env k).bind fun x => (f x.1).bind fun u => some (u, x.2)
section
variable {X : Cx} {Ps : Tb} {O : List Nat} {a b c : Expr} {es : List Expr} {ma mb mc : EM} {ms : AM} {pos : Pos}
theorem pev_var (i : Nat) {x : Str} (hi : i ∉ O) (hN : X.N[i]? = some x := by rfl) (hv : Vis X.env.scope x := by first | exact Or.inl rfl | exact Or.inr (Or.inl rfl) | exact Or.inr (Or.inr rfl)) (hd : (x == ("__debug__" : Str)) = false := by decide)
    (hcd : (x == ("__classdict__" : Str)) = false := by decide) : PEV X Ps O (.Name x pos) (eVar i) := ⟨impE (pv i hN hv hd hcd) fun σ H Q ⟨G, F, env, k, u, k', S, hm, q⟩ => by
  unfold eVar at hm
  split at hm
  · rename_i u' e
    cases hm
    obtain ⟨v, h1, h2⟩ := S.sl i _ hi e
    exact ⟨v, h1, q v H F S .refl h2⟩
  · cases hm⟩
theorem pev_c {e : Expr} {v : V} {u : U} (h : PE X e (tC v)) (r : ∀ t sc F H, Rep t sc F H v u) : PEV X Ps O e (eC u) := ⟨impE h fun σ H Q ⟨G, F, env, k, u', k', S, hm, q⟩ => by
  cases hm
  exact q v H F S .refl (r _ _ _ _)⟩
theorem pev_int {i : Int} {j} : PEV X Ps O (.Constant (.int i) j pos) (eC (.int i)) := pev_c pe_int fun _ _ _ _ => .int i
theorem pev_bl {i : Bool} {j} : PEV X Ps O (.Constant (.bool i) j pos) (eC (.bl i)) := pev_c pe_bl fun _ _ _ _ => .bl i
theorem pev_str {i : Str} {j} : PEV X Ps O (.Constant (.str i) j pos) (eC (.str i)) := pev_c pe_str fun _ _ _ _ => .str i
theorem pav_nil : PAV X Ps O [] aNil := ⟨impA pa_nil fun σ H Q ⟨G, F, env, k, u, k', S, hm, q⟩ => by
  cases hm
  exact q [] H F S .refl .nil⟩
theorem pav_cons (ha : PEV X Ps O a ma) (hr : PAV X Ps O es ms) (hs : starEach (a :: es) X.env = (false, eval a X.env) :: starEach es X.env := by rfl) : PAV X Ps O (a :: es) (aCons ma ms) := ⟨impA (pa_cons ha.pe hr.pa hs) fun σ H Q ⟨G, F, env, k, u, k', S, hm, q⟩ => by
  obtain ⟨⟨x, k1⟩, h1, hm⟩ := ob hm
  obtain ⟨⟨xs, k2⟩, h2, hm⟩ := ob hm
  cases hm
  exact ⟨G, F, env, k, x, k1, S, h1, fun v H1 F1 S1 m1 r1 => ⟨G, F1, env, k1, xs, k2, S1, h2, fun vs H2 F2 S2 m2 r2 => q _ H2 F2 S2 (m1.trans m2) (.cons (r1.mono m2.mo) r2)⟩⟩⟩
def OpU (r : R2) (f : U → U → Option U) : Prop := ∀ {K : PySem.W.Frag} {Ps : Tb} {G : Gx} {O : List Nat} {F : Addr → Prop} {H : Hp} {σ : St} {env : En} {k : Nat} {Q : VK} {v w : V} {x y u : U},
  SR K Ps G O F H σ env k → Rep G.t G.sc F H v x → Rep G.t G.sc F H w y → f x y = some u → (∀ z H' F', SR K Ps G O F' H' σ env k → Stp G F H F' H' → Rep G.t G.sc F' H' z u → Q z H') → r v w H Q
theorem bin_imp {r : R2} {f : U → U → Option U} (h : OpU r f) {K : PySem.W.Frag} {σ : St} {H : Hp} {Q : VK} (hq : tM K Ps O (eBin f ma mb) σ H Q) : tOp r (tM K Ps O ma) (tM K Ps O mb) σ H Q := by
  obtain ⟨G, F, env, k, u, k', S, hm, q⟩ := hq
  obtain ⟨⟨x, k1⟩, h1, hm⟩ := ob hm
  obtain ⟨⟨y, k2⟩, h2, hm⟩ := ob hm
  obtain ⟨u', h3, hm⟩ := ob hm
  cases hm
  exact ⟨G, F, env, k, x, k1, S, h1, fun v H1 F1 S1 m1 r1 => ⟨G, F1, env, k1, y, k2, S1, h2, fun w H2 F2 S2 m2 r2 => h S2 (r1.mono m2.mo) r2 h3 fun z H3 F3 S3 m3 r3 => q z H3 F3 S3 (m1.trans (m2.trans m3)) r3⟩⟩
theorem pev_op {op : Operator} {r : R2} {f : U → U → Option U} (ho : OpR X (binaryOp op) r) (h : OpU r f) (ha : PEV X Ps O a ma) (hb : PEV X Ps O b mb) : PEV X Ps O (.BinOp a op b pos) (eBin f ma mb) :=
  ⟨impE (pe_op ho ha.pe hb.pe) fun σ H Q hq => bin_imp h hq⟩
theorem pev_cmpR {op : CmpOp} {r : R2} {f : U → U → Option U} (ho : OpR X (compareOp op) r) (h : OpU r f) (ha : PEV X Ps O a ma) (hb : PEV X Ps O b mb) (hm : behindInMarks op b = false) : PEV X Ps O (.Compare a [op] [b] pos) (eBin f ma mb) :=
  ⟨impE (pe_cmpR ho ha.pe hb.pe hm) fun σ H Q hq => bin_imp h hq⟩
theorem pbv_cmpR {op : CmpOp} {r : R2} {f : U → U → Option U} (ho : OpR X (compareOp op) r) (h : OpU r f) (ha : PEV X Ps O a ma) (hb : PEV X Ps O b mb) (hm : behindInMarks op b = false) : PBV X Ps O (.Compare a [op] [b] pos) (bVal (eBin f ma mb)) :=
  ⟨impT (pt_cmpR ho ha.pe hb.pe hm) fun σ H Q hq => by
    obtain ⟨G, F, env, k, u, k', S, hm, q⟩ := hq
    obtain ⟨⟨x, k1⟩, h1, hm⟩ := ob hm
    refine bin_imp h ⟨G, F, env, k, x, k1, S, h1, fun v H1 F1 S1 m1 r1 => ?_⟩
    cases x with
    | bl b0 => cases hm; cases r1; exact ⟨_, rfl, q H1 F1 S1 m1⟩
    | _ => cases hm⟩
theorem size1000 {n : Nat} (h : n ≤ 1000) : n ≤ sizeLine := Nat.le_of_lt (small1000 h)
theorem pev_tup {x1} (h : PAV X Ps O es ms) : PEV X Ps O (.Tuple es x1 pos) (eTup ms) := ⟨impE (pe_tup h.pa) fun σ H Q ⟨G, F, env, k, u, k', S, hm, q⟩ => by
  obtain ⟨⟨xs, k1⟩, h1, hm⟩ := ob hm
  dsimp only at hm
  split at hm
  · rename_i hl
    cases hm
    refine ⟨G, F, env, k, xs, _, S, h1, fun vs H1 F1 S1 m1 r1 => ⟨by rw [r1.length]; exact size1000 hl, fun p hp => ?_⟩⟩
    have st := stp_alloc (o := .tup vs) S1.b hp (by intro ps z; cases z)
    exact q _ _ _ (S1.step st (S1.b.alloc (o := .tup vs) hp (by intro ps z; cases z)).1) (m1.trans st) (.tup (.inr rfl) upd_same (r1.mono st.mo))
  · cases hm⟩
theorem pev_lst (h : PAV X Ps O es ms) : PEV X Ps O (.List es pos) (eLst ms) := ⟨impE (pe_lst h.pa) fun σ H Q ⟨G, F, env, k, u, k', S, hm, q⟩ => by
  obtain ⟨⟨xs, k1⟩, h1, hm⟩ := ob hm
  dsimp only at hm
  split at hm
  · rename_i hl
    cases hm
    refine ⟨G, F, env, k, xs, _, S, h1, fun vs H1 F1 S1 m1 r1 => ⟨by rw [r1.length]; exact size1000 hl, fun p hp => ?_⟩⟩
    have st := stp_alloc (o := .lst vs) S1.b hp (by intro ps z; cases z)
    exact q _ _ _ (S1.step st (S1.b.alloc (o := .lst vs) hp (by intro ps z; cases z)).1) (m1.trans st) (.lst (.inr rfl) upd_same (r1.mono st.mo))
  · cases hm⟩
theorem pbv_not {m : BM} (ha : PBV X Ps O a m) : PBV X Ps O (.UnaryOp .Not a pos) (bNot m) := ⟨impT (pt_not ha.pt) fun σ H Q ⟨G, F, env, k, u, k', S, hm, q⟩ => by
  obtain ⟨⟨x, k1⟩, h1, hm⟩ := ob hm
  cases hm
  exact ⟨G, F, env, k, x, k1, S, h1, fun H1 F1 S1 m1 => q H1 F1 S1 m1⟩⟩
theorem pwv_or1 {m : BM} (ha : PBV X Ps O a m) : PWV X Ps O (.BoolOp .Or [a] pos) m := ⟨pw_or1 ha.pt⟩
theorem pwv_or {m m' : BM} {rest : List Expr} (ha : PBV X Ps O a m) (hb : PWV X Ps O (.BoolOp .Or (b :: rest) pos) m') : PWV X Ps O (.BoolOp .Or (a :: b :: rest) pos) (bOr m m') := ⟨impW (pw_or ha.pt hb.pw) fun σ H Q ⟨G, F, env, k, u, k', S, hm, q⟩ => by
  obtain ⟨⟨x, k1⟩, h1, hm⟩ := ob hm
  refine ⟨G, F, env, k, x, k1, S, h1, fun H1 F1 S1 m1 => ?_⟩
  dsimp only at hm
  cases x with
  | false => exact iteF ⟨G, F1, env, k1, u, k', S1, hm, fun H2 F2 S2 m2 => q H2 F2 S2 (m1.trans m2)⟩
  | true => cases hm; exact iteT (q H1 F1 S1 m1)⟩
theorem PWV.pbv {m : BM} (h : PWV X Ps O a m) : PBV X Ps O a m := ⟨PW.pt h.pw⟩
theorem pev_if {m : BM} (hc : PBV X Ps O c m) (ha : PEV X Ps O a ma) (hb : PEV X Ps O b mb) : PEV X Ps O (.IfExp c a b pos) (eIf m ma mb) := ⟨impE (pe_ifExp hc.pt ha.pe hb.pe) fun σ H Q ⟨G, F, env, k, u, k', S, hm, q⟩ => by
  obtain ⟨⟨x, k1⟩, h1, hm⟩ := ob hm
  refine ⟨G, F, env, k, x, k1, S, h1, fun H1 F1 S1 m1 => ?_⟩
  dsimp only at hm
  cases x with
  | true => exact iteT ⟨G, F1, env, k1, u, k', S1, hm, fun v H2 F2 S2 m2 r2 => q v H2 F2 S2 (m1.trans m2) r2⟩
  | false => exact iteF ⟨G, F1, env, k1, u, k', S1, hm, fun v H2 F2 S2 m2 r2 => q v H2 F2 S2 (m1.trans m2) r2⟩⟩
end
end UM
set_option linter.all false
set_option Elab.async false
set_option maxRecDepth 100000
set_option maxHeartbeats 1000000
namespace L2
open PySem PySem.Spec PyProof.Rows
theorem tuple_keys_none : typeLookup (.type "tuple") "keys" = pure none := am_miss_of_fast (by first | decide +kernel | rfl)
section
variable {prog : Program} {w : World} {A : Around} {E : Value → Shared → Prop}
theorem miss_tuple {s : Shared} {a : Addr} {o : Obj} {xs : Array Value} {k : Nat} {Q : Option Value → Shared → Prop} (hx : s.heap.get? a = some o) (hc : o.cls = .type "tuple") (hdat : o.data = .seq xs k) (hd : o.dict = none) (hA : A.handled = none)
    (h : ∀ h' tk, (∀ b ob, s.heap.get? b = some ob → h'.get? b = some ob) → Q none { s with heap := h', toks := tk }) : wpAny (model prog w) A (getAttr? (.ref a) "keys") Q E s := by
  obtain ⟨c, dct, dat, sl⟩ := o
  simp only at hc hdat hd
  subst hc hdat hd
  obtain ⟨hp, g, d, tk, os⟩ := s
  have hT : ∀ tk', (⟨hp, g, d, tk', os⟩ : Shared).TypeIs (.ref a) "tuple" := fun _ => ⟨_, hx, rfl⟩
  have hmiss := tuple_keys_none
  have hname : (["__module__", "__name__", "__qualname__", "__doc__", "__annotations__"] : List Str).contains "keys" = false := by decide +kernel
  have hsz : ("keys" : Str).length + 100 ≤ sizeLine := by first | size_fits | decide +kernel
  have f1 := sub_AttributeError
  have f3 := PySem.F.slot_tuple_getattribute.lookup
  have f4 := PySem.F.slot_tuple_getattribute.bind (.ref a)
  have f5 := am_tuple_getattr_none
  unfold getAttr? getAttrBy? getAttrBy
  repeat (any_goals (first | assumption | exact hT _ | ((with_reducible show wpAny _ _ (call (Value.builtin "tuple.__getattribute__") _ _) _ _ _); refine call_meets PySem.F.slot_tuple_getattribute (hT _) am_entry_tuple_getattribute (PySem.F.args_tuple_getattribute_2 _ _) (meets_getattribute_miss_tuple a xs k sl "keys" _ hmiss hname hsz) ⟨hx, hA, fun h' tk' e hx' => ?_⟩) | wp_step))
  obtain ⟨t', u', he⟩ := hx'.there
  show wpAny _ _ (getattributeRaised _ _ _ _ _ _ _) _ _ _
  unfold getattributeRaised
  repeat (any_goals (first | assumption | wp_step))
  all_goals first | exact h _ _ hx'.keeps | (dsimp only; repeat (any_goals (first | assumption | exact h _ _ hx'.keeps | wp_step)))
theorem upd_loopT {R : Result → Shared → Prop} {S I l : Addr} {items : Array Value} {res : Value} (hh : A.handled = none) (hlI : l ≠ I) (hSI : S ≠ I) (hSl : S ≠ l) :
    ∀ (rest : List (Key × Value)) (i : Nat) (acc : List (Key × Value)) (ix : Int) (t : Tok) (s : Shared), items.size = i + rest.length → acc.length + rest.length ≤ sizeLine →
      (∀ (j : Nat) (q : Key × Value), rest[j]? = some q → ∃ (b : Addr) (u : Value), items[i + j]? = some (.ref b) ∧ b ≠ S ∧ b ≠ I ∧ IsTup s.heap b #[u, q.2] ∧ keyIs q.1 u = true) →
      s.heap.IsTupleIter I l i → s.heap.IsTuple l items → s.heap.DictOf (mixKind prog w) S acc →
      (∀ h' tk, h'.DictOf (mixKind prog w) S (merged acc rest) → (∀ b o, b ≠ S → b ≠ I → s.heap.get? b = some o → h'.get? b = some o) → R (.ok (.ret res)) { s with heap := h', toks := tk }) →
      codeAny (model prog w) A (.builtin "dict.update.loop" ⟨[.ref S, .ref I, .int ix t, res], []⟩) R s
  | [], i, acc, ix, t, s, hsz, hln, ht, hit, hl, hm, hR => by
    refine codeAny_builtin ud_entry ?_
    rw [Around.under_plainId ud_plain _]
    show wpAny _ A.in1 (pyNext (.ref I) >>= _) _ _ s
    refine wpAny_bind (wpAny_pyNext_tuple_end (A := A.in1) hh hit hl (by first | exact Array.getElem?_eq_none (Nat.le_of_eq hsz) | (simp at hsz; simp; omega)) fun h' he => ?_)
    show wpAny _ A.in1 (Builtin.Dict.addKeywords S [] >>= _) _ _ _
    refine wpAny_bind (wpAny_pure (wpAny_pure ?_))
    exact hR h' s.toks (hm.extBut he hSI) fun b o _ hb e => he b o hb e
  | q :: rest, i, acc, ix, t, s, hsz, hln, ht, hit, hl, hm, hR => by
    obtain ⟨b, u, hb, hbS, hbI, htup, hk⟩ := ht 0 q rfl
    rw [List.length_cons] at hsz hln
    refine codeAny_builtin ud_entry ?_
    rw [Around.under_plainId ud_plain _]
    show wpAny _ A.in1 (pyNext (.ref I) >>= _) _ _ s
    refine wpAny_bind (wpAny_pyNext_tuple_item (x := .ref b) hit hl (by simpa using hb) fun h1 hit1 hs1 => ?_)
    have ht1 : IsTup h1 b #[u, q.2] := htup.extBut hs1.extBut hbI
    have hl1 : h1.IsTuple l items := hl.extBut hs1.extBut hlI
    have hm1 : h1.DictOf (mixKind prog w) S acc := hm.extBut hs1.extBut hSI
    obtain ⟨o, ho, hc, n, hd⟩ := id ht1
    show wpAny _ A.in1 (holding [Value.ref b] _ >>= _) _ _ _
    refine wpAny_bind (wpAny_holding ?_)
    refine wpAny_bind (wpAny_tryCatch ?_)
    unfold Builtin.Dict.pairItems
    refine wpAny_bind (wpAny_typeOf (T := "tuple") ⟨o, ho, hc⟩ ?_)
    rw [if_pos (by first | decide | rfl | simp)]
    refine wpAny_bind (wpAny_seqItems ho hd (wpAny_pure ?_))
    show wpAny _ A.in1 (holding [u, q.2] (dictSet S u q.2)) _ _ _
    refine wpAny_holding (wpAny_dictSet_pairs (knd := mixKind prog w) (k := q.1) hk hm1 (fun h2 hm2 hs2 => ?_) (by omega))
    refine wpAny_pure ⟨plainId_quiet ud_plain _, upd_loopT (items := items) hh hlI hSI hSl rest (i + 1) (stored acc q.1 q.2) (ix + 1) 0 _ (show items.size = i + 1 + rest.length by omega) ?_ (fun j q' e => ?_) ?_ ?_ hm2 fun h' tk hd' k => ?_⟩
    · have z := stored_length_le acc q.1 q.2
      omega
    · obtain ⟨b', u', hb', hbS', hbI', htup', hk'⟩ := ht (j + 1) q' (by simpa using e)
      refine ⟨b', u', ?_, hbS', hbI', (htup'.extBut hs1.extBut hbI').extBut hs2.extBut hbS', hk'⟩
      rw [show i + 1 + j = i + (j + 1) by omega]
      exact hb'
    · exact (let ⟨o, ho, r⟩ := hit1; ⟨o, hs2.extBut I o (Ne.symm hSI) ho, r⟩)
    · exact hl1.extBut hs2.extBut (Ne.symm hSl)
    · exact hR h' tk hd' fun c oc h3 h4 e => k c oc h3 h4 (hs2.extBut c oc h3 (hs1.extBut c oc h4 e))
theorem call_dict_pairsT {s : Shared} {l : Addr} {ol : Obj} {items : Array Value} {n : Nat} {prs : List (Key × Value)} {Q : Value → Shared → Prop} (hh : A.handled = none) (hl : s.heap.get? l = some ol) (hc : ol.cls = .type "tuple") (hd : ol.dict = none)
    (hdat : ol.data = .seq items n) (hsz : items.size = prs.length) (hln : prs.length ≤ sizeLine)
    (ht : ∀ (j : Nat) (q : Key × Value), prs[j]? = some q → ∃ (b : Addr) (u : Value), items[j]? = some (.ref b) ∧ IsTup s.heap b #[u, q.2] ∧ keyIs q.1 u = true)
    (h : ∀ h' tk, h'.DictOf (mixKind prog w) s.heap.objs.size (merged [] prs) → (∀ b o, s.heap.get? b = some o → h'.get? b = some o) → Q (.ref s.heap.objs.size) { s with heap := h', toks := tk }) :
    wpAny (model prog w) A (call (.type "dict") [.ref l]) Q E s := by
  refine callType_codes (Q₁ := fun obj s₁ => obj = .ref s.heap.objs.size ∧ s₁ = { s with heap := s.heap.push { cls := .type "dict", data := .dict #[] } }) PySem.F.kt_called_dict (PySem.F.kt_typeCall_dict_1 _) PySem.F.entry_dict_init (kt_code_dict_new _ ⟨rfl, rfl⟩) ?_
  rintro obj s₁ ⟨rfl, rfl⟩
  have hnew : (s.heap.push { cls := .type "dict", data := .dict #[] }).DictOf (mixKind prog w) s.heap.objs.size [] := Heap.DictOf.new s.heap
  have k0 : ∀ b o, s.heap.get? b = some o → (s.heap.push { cls := .type "dict", data := .dict #[] }).get? b = some o := fun b o e => Heap.get?_push_of_some _ e
  refine ⟨hnew.typeIs, PySem.F.args_dict_init_2 _ _, ?_⟩
  unfold Builtin.«dict.__init__»
  refine wpAny_bind ?_
  unfold Builtin.Dict.selfAndRest
  refine wpAny_bind (wpAny_notOrdered_dict hnew.typeIs ?_)
  show wpAny _ _ (pure (s.heap.objs.size, [Value.ref l])) _ _ _
  refine wpAny_pure ?_
  show wpAny _ _ (Builtin.Dict.updateFrom "dict.__init__" s.heap.objs.size (.ref l) [] .none) _ _ _
  unfold Builtin.Dict.updateFrom
  refine wpAny_bind (wpAny_typeOf (T := "tuple") ⟨ol, k0 _ _ hl, hc⟩ ?_)
  rw [if_pos (by first | decide | rfl | simp)]
  refine wpAny_bind (miss_tuple (k0 _ _ hl) hc hdat hd hh fun h1 tk1 hk1 => ?_)
  rw [if_pos (show (none : Option Value).isNone = true from rfl)]
  refine wpAny_bind (wpAny_rule ?_)
  have hl1 : h1.IsTuple l items := ⟨ol, hk1 _ _ (k0 _ _ hl), hc, n, hdat⟩
  have hS1 : s.heap.objs.size < h1.objs.size := by
    have e : (s.heap.push { cls := .type "dict", data := .dict #[] }).get? s.heap.objs.size = some { cls := .type "dict", data := .dict #[] } := Heap.get?_push_size _ rfl
    exact Heap.lt_size (hk1 _ _ e)
  refine wpAny_bind (wpAny_pyIter_tuple hl1 ?_)
  have k2 : ∀ b o, h1.get? b = some o → (h1.push { cls := .type "tuple_iterator", data := .fields #[.ref l, .int 0 0] }).get? b = some o := fun b o e => Heap.get?_push_of_some _ e
  have hlt : l < s.heap.objs.size := Heap.lt_size hl
  have key := upd_loopT (prog := prog) (w := w) (A := A.in1) (R := wants (fun r s₂ => r = .none ∧ Q (.ref s.heap.objs.size) s₂) E) (S := s.heap.objs.size) (I := h1.objs.size) (l := l) (items := items) (res := Value.none) hh
    (Nat.ne_of_lt (Nat.lt_trans hlt hS1)) (Nat.ne_of_lt hS1) (Nat.ne_of_gt hlt) prs 0 [] 0 0
    { s with heap := h1.push { cls := .type "tuple_iterator", data := .fields #[.ref l, .int 0 0] }, toks := tk1 } (by rw [hsz, Nat.zero_add]) (by rw [List.length_nil, Nat.zero_add]; exact hln)
    (fun j q e => by
      obtain ⟨b, u, e1, e2, e3⟩ := ht j q e
      have hb : b < s.heap.objs.size := e2.lt
      exact ⟨b, u, by rw [Nat.zero_add]; exact e1, Nat.ne_of_lt hb, Nat.ne_of_lt (Nat.lt_trans hb hS1), e2.keeps fun c o z => k2 _ _ (hk1 _ _ (k0 _ _ z)), e3⟩)
    ⟨_, Heap.get?_push_size _ rfl, rfl, rfl⟩ (let ⟨o, ho, r⟩ := hl1; ⟨o, k2 _ _ ho, r⟩) ((hnew.at fun o e => hk1 _ _ e).at fun o e => k2 _ _ e)
    (fun h' tk hd' k => ⟨rfl, h h' tk hd' fun b o e => k b o (Nat.ne_of_lt (Heap.lt_size e)) (Nat.ne_of_lt (Nat.lt_trans (Heap.lt_size e) hS1)) (k2 _ _ (hk1 _ _ (k0 _ _ e)))⟩)
  first
    | exact wpAny_pure ⟨plainId_quiet ud_plain _, key⟩
    | exact wpAny_bind (wpAny_pure (wpAny_pure ⟨plainId_quiet ud_plain _, key⟩))
end
section
variable {X : Cx}
theorem call_dictT (hcalm : X.calm = true) : CallR X (.type "dict") (fun xs H Q => ∃ (a : Addr) (ps : List Addr) (kvs : List (Key × V)), xs = [.ref a] ∧ H a = some (.tup (ps.map V.ref)) ∧ Paired (fun p kv => SqT X.K H p [kV kv.1, kv.2]) ps kvs ∧
    ∀ p, H p = none → Q (.ref p) (upd H p (.dK (mergeK [] kvs)))) := by
  intro pins s σ H xs us Q I r q
  obtain ⟨a, ps, kvs, ex, hq, hp, q⟩ := q
  subst ex
  obtain ⟨u, eu, rx⟩ := vals1 r
  subst eu
  cases rx
  obtain ⟨hz, its, rv, o, ho, hc, n, hdat, hd⟩ := (show ObjOk X.prog X.w H s.heap a (.tup (ps.map V.ref)) from I.hok a _ hq)
  have ei := refs_at rv
  subst ei
  rw [List.length_map] at hz
  obtain ⟨prs, rel, hl, hpr⟩ := pairs_of I hp
  refine call_dict_pairsT (prs := prs) (I.ok.hd hcalm) ho hc hd hdat (by simp [hl]) (by rw [hl]; exact hz) (fun j q' e => ?_) fun h' tk hd' k => ?_
  · obtain ⟨b, u, e1, e2, e3⟩ := hpr j q' e
    exact ⟨b, u, by simp [e1], e2, e3⟩
  · have hm : (s.heap.objs.size == sysModules) = false := beq_eq_false_iff_ne.mpr (Nat.ne_of_gt I.big)
    have hlen : (mergeK [] kvs).length ≤ sizeLine := by
      refine Nat.le_trans (length_mergeK kvs []) ?_
      rw [List.length_nil, Nat.zero_add, rel.length, hl]
      exact hz
    exact ⟨.ref s.heap.objs.size, upd H s.heap.objs.size (.dK (mergeK [] kvs)), I.laid (t' := tk) k (Nat.le_refl _) (show ObjOk X.prog X.w _ _ _ (.dK (mergeK [] kvs)) from ⟨hlen, hm, merged [] prs, KV.merge rel .nil, hd'⟩), rfl, q _ (I.hok.fresh (Nat.le_refl _))⟩
end
end L2
set_option linter.all false
set_option Elab.async false
set_option maxRecDepth 100000
set_option maxHeartbeats 1000000
namespace L2
open PySem PySem.Spec PyProof.Rows
theorem paired_of {α β : Type} {R : α → β → Prop} : ∀ {xs : List α} {us : List β}, xs.length = us.length → (∀ (j : Nat) x u, xs[j]? = some x → us[j]? = some u → R x u) → Paired R xs us
  | [], [], _, _ => .nil
  | x :: xs, u :: us, hl, h => .cons (h 0 x u rfl rfl) (paired_of (by simpa using hl) fun j y v e1 e2 => h (j + 1) y v (by simpa using e1) (by simpa using e2))
  | [], _ :: _, hl, _ => by simp at hl
  | _ :: _, [], hl, _ => by simp at hl
section
variable {X : Cx}
def rSortedD : List V → Hp → VK → Prop := fun vs H Q => ∃ (a : Addr) (kvs : List (Key × V)) (ss : List Str), vs = [V.ref a] ∧ Rd H a (.dK kvs) ∧ kvs.map (·.1) = ss.map Sum.inr ∧ ss.length < 64 ∧
  ∀ (ys : List Str) (p : Addr), ys.Perm ss → sortedS ys = true → H p = none → Q (.ref p) (upd H p (.lst (ys.map V.str)))
theorem cr_sortedD (hc : X.calm = true) : CallR X (.builtin "sorted") rSortedD := by
  intro pins s σ H vs us Q I r h
  obtain ⟨a, kvs, ss, rfl, e, hk, h64, q⟩ := h
  rw [Vals.ref1 r]
  obtain ⟨z, hd, ws, rel, dd⟩ := dk_rd I.hok e
  obtain ⟨ep, hat⟩ := dd.dictAt
  have hl0 : kvs.length = ss.length := by simpa using congrArg List.length hk
  have hlw : ws.length = ss.length := by rw [← rel.length]; exact hl0
  refine Calls.call_function_entry PyProof.Rows.kind_sorted PyProof.Rows.plain_sorted PyProof.Rows.entry_sorted (PyProof.Rows.args_sorted1 _) ?_
  unfold Builtin.«sorted»
  refine wpAny_bind (m := checkCount "sorted" 1 1 _) (wpAny_pure ?_)
  refine wpAny_bind (PySem.W.kdu_collect (A := X.A.in1) (PySem.W.kdl_dict (prog := X.prog) (w := X.w) (knd := mixKind X.prog X.w) (kvs := ws) (ep := ep) hd) (I.ok.hd hc) hat (by rw [hlw]; exact small64 h64) fun h' tk acc hk' hacc => ?_)
  have hlA : acc.toList.length = ss.length := by rw [Array.length_toList, hacc.1, hlw]
  refine wpAny_bind (wpAny_newList ?_ (by rw [hlA]; exact small64 h64))
  have va : Vals (ss.map V.str) acc.toList := by
    refine paired_of (by rw [List.length_map, hlA]) fun j x u e1 e2 => ?_
    obtain ⟨k, w', e3, e4⟩ := hacc.2 j u (by rw [← Array.getElem?_toList]; exact e2)
    rw [List.getElem?_map] at e1
    cases e5 : ss[j]? with
    | none => rw [e5] at e1; cases e1
    | some y =>
      rw [e5] at e1
      cases e1
      have e6 : (kvs.map (·.1))[j]? = some (Sum.inr y) := by rw [hk, List.getElem?_map, e5]; rfl
      rw [List.getElem?_map] at e6
      cases e7 : kvs[j]? with
      | none => rw [e7] at e6; cases e6
      | some kv =>
        rw [e7] at e6
        have e8 : kv.1 = Sum.inr y := Option.some.inj e6
        obtain ⟨w2, e9, _⟩ : ∃ w2, ws[j]? = some (kv.1, w2) ∧ True := by
          obtain ⟨u2, hu2, ru2⟩ := kv_get rel (show kvs[j]? = some (kv.1, kv.2) from e7)
          exact ⟨u2, hu2, trivial⟩
        rw [e3] at e9
        have e10 : k = kv.1 := congrArg Prod.fst (Option.some.inj e9)
        rw [e10, e8] at e4
        have e4 : keyIs (Sum.inr y) u = true := e4
        rcases keyIs_shape e4 with ⟨i, t, h1, h2⟩ | ⟨x, t, h1, h2⟩
        · cases h1
        · cases h1
          exact ⟨t, h2⟩
  have hS := va.strs
  have hoL : (h'.push (seqObj "list" acc.toList.toArray 0)).get? h'.objs.size = some (seqObj "list" acc.toList.toArray 0) := Heap.get?_push_size _ rfl
  refine wpAny_bind (wpAny_holding (wpAny_call_entry PyProof.Rows.slot_list_sort ⟨_, hoL, rfl⟩ PyProof.Rows.entry_list_sort (PyProof.Rows.list_sort_treeK PyProof.Rows.strKind_oneLt hoL hS.keysOf (fun v₁ v₂ rest e => PyProof.Rows.keyKind_strs (by rw [← e]; exact hS)) (by rw [hlA]; exact h64) fun st' a1 a2 => ⟨_, rfl, ?_⟩) (PyProof.Rows.args_list_sort _)))
  refine wpAny_pure ⟨_, rfl, ?_⟩
  obtain ⟨ys, g1, g2, g3⟩ := PyProof.Rows.sorted_out_str hS a1 a2
  obtain ⟨ep', he'⟩ := PyProof.Rows.sortedHeap_at (vs := acc.toList) (out := (arrOf st').map (·.2)) hoL
  have hlen : (ys.map V.str).length ≤ sizeLine := by rw [List.length_map, g2.length_eq]; exact small64 h64
  have I' : Inv X pins σ H { s with heap := h', toks := tk } := I.kept (h' := h') (t' := tk) hk'
  exact ⟨.ref _, upd H h'.objs.size (.lst (ys.map V.str)), I'.laid (t' := tk) (fun b o eo => by
    have hlt := Heap.lt_size eo
    rw [PyProof.Rows.sortedHeap_old (Nat.ne_of_lt hlt) (by rw [Heap.size_push]; exact Nat.lt_succ_of_lt hlt)]
    exact Heap.get?_push_of_some _ eo) (Nat.le_refl _) ⟨hlen, _, ep', vals_of_strs g1, he'⟩, rfl, q ys _ g2 g3 (I'.hok.fresh (Nat.le_refl _))⟩
end
end L2
set_option linter.all false
set_option Elab.async false
set_option maxRecDepth 100000
set_option maxHeartbeats 1000000
namespace UM
open PySem L2
def fAdd : U → U → Option U
  | .int i, .int j => some (.int (i + j))
  | .str x, .str y => if x.length + y.length ≤ 1000 then some (.str (x ++ y)) else none
  | .tup xs, .tup ys => if xs.length + ys.length ≤ 1000 then some (.tup (xs ++ ys)) else none
  | .lst xs, .lst ys => if xs.length + ys.length ≤ 1000 then some (.lst (xs ++ ys)) else none
  | _, _ => none
def fSub : U → U → Option U
  | .int i, .int j => some (.int (i - j))
  | _, _ => none
def fMul : U → U → Option U
  | .int i, .int j => if (-(2 ^ 64) < i ∧ i < 2 ^ 64) ∨ (-(2 ^ 64) < j ∧ j < 2 ^ 64) then some (.int (i * j)) else none
  | _, _ => none
def fMod : U → U → Option U
  | .int i, .int j => if 0 < j then some (.int (i % j)) else none
  | _, _ => none
def fDiv : U → U → Option U
  | .int i, .int j => if 0 < j ∧ j < 1073741824 then some (.int (i / j)) else none
  | _, _ => none
mutual
def toD : U → PyData
  | .non => .none
  | .bl b => .bool b
  | .int i => .int i
  | .str x => .str x
  | .tup us => .tuple (toDs us)
  | .lst us => .list (toDs us)
  | _ => .dict []
def toDs : List U → List PyData
  | [] => []
  | u :: us => toD u :: toDs us
end
def fEq (x y : U) : Option U := if SeqAt.shaped (toD x) = true ∧ SeqAt.shaped (toD y) = true then some (.bl (PyData.eqv (toD x) (toD y))) else none
def fNe (x y : U) : Option U := if SeqAt.shaped (toD x) = true ∧ SeqAt.shaped (toD y) = true then some (.bl (!PyData.eqv (toD x) (toD y))) else none
section
variable {X : Cx}
mutual
theorem Rep.dp {K : PySem.W.Frag} {t sc : Addr} {F : Addr → Prop} {H : Hp} : ∀ {v : V} {u : U}, Rep t sc F H v u → (toD u).canLay0 = true → Dp K H v (toD u)
  | _, _, .non, _ => by unfold toD; exact .non
  | _, _, .bl b, _ => by unfold toD; exact .bl b
  | _, _, .int i, _ => by unfold toD; exact .int i
  | _, _, .str x, _ => by unfold toD; exact .str x
  | _, _, .tup f h r, c => by unfold toD at c ⊢; exact .tup (SqT.of h) (Reps.dp r (by simpa [PyData.canLay0] using c))
  | _, _, .lst f h r, c => by unfold toD at c ⊢; exact .lst (SqL.of h) (Reps.dp r (by simpa [PyData.canLay0] using c))
  | _, _, .dct f h r, c => by simp [toD, PyData.canLay0] at c
  | _, _, .town, c => by simp [toD, PyData.canLay0] at c
  | _, _, .scr, c => by simp [toD, PyData.canLay0] at c
theorem Reps.dp {K : PySem.W.Frag} {t sc : Addr} {F : Addr → Prop} {H : Hp} : ∀ {vs : List V} {us : List U}, Reps t sc F H vs us → PyData.canLayAll0 (toDs us) = true → DpAll K H vs (toDs us)
  | _, _, .nil, _ => by unfold toDs; exact .nil
  | _, _, .cons h r, c => by
    unfold toDs at c ⊢
    simp only [PyData.canLayAll0, Bool.and_eq_true] at c
    exact .cons (Rep.dp h c.1) (Reps.dp r c.2)
end
theorem opu_eq (K' : PySem.W.Frag) : OpU (rEqD K') fEq := by
  intro K Ps G O F H σ env k Q v w x y u S rx ry hf q
  unfold fEq at hf
  split at hf
  · rename_i h
    cases hf
    exact ⟨toD x, toD y, rx.dp (SeqAt.canLay_of_shaped h.1), ry.dp (SeqAt.canLay_of_shaped h.2), h.1, h.2, q _ H F S .refl (.bl _)⟩
  · cases hf
theorem opu_ne (K' : PySem.W.Frag) : OpU (rNeD K') fNe := by
  intro K Ps G O F H σ env k Q v w x y u S rx ry hf q
  unfold fNe at hf
  split at hf
  · rename_i h
    cases hf
    exact ⟨toD x, toD y, rx.dp (SeqAt.canLay_of_shaped h.1), ry.dp (SeqAt.canLay_of_shaped h.2), h.1, h.2, q _ H F S .refl (.bl _)⟩
  · cases hf
def rAddU (K : PySem.W.Frag) : R2 := fun x y H Q => rI0 (fun i j => .int (i + j)) x y H Q ∨ (∃ i j, x = .str i ∧ y = .str j ∧ i.length + j.length ≤ sizeLine ∧ Q (.str (i ++ j)) H) ∨ rCatT K x y H Q ∨ rCatT0 K x y H Q ∨ rCat x y H Q
theorem op_addU : OpR X (binaryOp .Add) (rAddU X.K) := op_add.or (op_add_str.or (op_catT.or (op_catT0.or op_cat)))
theorem opu_add (K' : PySem.W.Frag) : OpU (rAddU K') fAdd := by
  intro K Ps G O F H σ env k Q v w x y u S rx ry hf q
  cases rx with
  | int i =>
    cases ry with
    | int j => cases hf; exact .inl ⟨i, j, rfl, rfl, q _ H F S .refl (.int _)⟩
    | _ => cases hf
  | str i =>
    cases ry with
    | str j =>
      simp only [fAdd] at hf
      split at hf
      · rename_i h
        cases hf
        exact .inr (.inl ⟨i, j, rfl, rfl, size1000 h, q _ H F S .refl (.str _)⟩)
      · cases hf
    | _ => cases hf
  | @tup a vs us f h r =>
    cases ry with
    | @tup b ws xs f' h' r' =>
      simp only [fAdd] at hf
      split at hf
      · rename_i hl
        cases hf
        have lv := r.length
        have lw := r'.length
        by_cases hv : vs = []
        · subst hv
          cases r
          exact .inr (.inr (.inr (.inl ⟨a, b, ws, rfl, rfl, SqT.of h, SqT.of h', q _ H F S .refl (.tup f' h' r')⟩)))
        · refine .inr (.inr (.inl ⟨a, b, vs, ws, rfl, rfl, SqT.of h, SqT.of h', hv, by rw [lv, lw]; exact size1000 hl, fun hw => ?_, fun hw p hp => ?_⟩))
          · subst hw
            cases r'
            exact q _ H F S .refl (by rw [List.append_nil]; exact .tup f h r)
          · have st := stp_alloc (o := .tup (vs ++ ws)) S.b hp (by intro ps z; cases z)
            exact q _ _ _ (S.step st (S.b.alloc (o := .tup (vs ++ ws)) hp (by intro ps z; cases z)).1) st (.tup (.inr rfl) upd_same ((r.append r').mono st.mo))
      · cases hf
    | _ => cases hf
  | @lst a vs us f h r =>
    cases ry with
    | @lst b ws xs f' h' r' =>
      simp only [fAdd] at hf
      split at hf
      · rename_i hl
        cases hf
        refine .inr (.inr (.inr (.inr ⟨a, b, vs, ws, rfl, rfl, h, h', by rw [r.length, r'.length]; exact size1000 hl, fun p hp => ?_⟩)))
        have st := stp_alloc (o := .lst (vs ++ ws)) S.b hp (by intro ps z; cases z)
        exact q _ _ _ (S.step st (S.b.alloc (o := .lst (vs ++ ws)) hp (by intro ps z; cases z)).1) st (.lst (.inr rfl) upd_same ((r.append r').mono st.mo))
      · cases hf
    | _ => cases hf
  | _ => cases hf
theorem opu_sub : OpU (rI0 fun i j => .int (i - j)) fSub := by
  intro K Ps G O F H σ env k Q v w x y u S rx ry hf q
  cases rx with
  | int i =>
    cases ry with
    | int j => cases hf; exact ⟨i, j, rfl, rfl, q _ H F S .refl (.int _)⟩
    | _ => cases hf
  | _ => cases hf
theorem opu_mul : OpU (rI CMul fun i j => .int (i * j)) fMul := by
  intro K Ps G O F H σ env k Q v w x y u S rx ry hf q
  cases rx with
  | int i =>
    cases ry with
    | int j =>
      simp only [fMul] at hf
      split at hf
      · rename_i h; cases hf; exact ⟨i, j, rfl, rfl, h, q _ H F S .refl (.int _)⟩
      · cases hf
    | _ => cases hf
  | _ => cases hf
theorem opu_mod : OpU (rI (fun _ j => 0 < j) fun i j => .int (i % j)) fMod := by
  intro K Ps G O F H σ env k Q v w x y u S rx ry hf q
  cases rx with
  | int i =>
    cases ry with
    | int j =>
      simp only [fMod] at hf
      split at hf
      · rename_i h; cases hf; exact ⟨i, j, rfl, rfl, h, q _ H F S .refl (.int _)⟩
      · cases hf
    | _ => cases hf
  | _ => cases hf
theorem opu_div : OpU (rI CDiv fun i j => .int (i / j)) fDiv := by
  intro K Ps G O F H σ env k Q v w x y u S rx ry hf q
  cases rx with
  | int i =>
    cases ry with
    | int j =>
      simp only [fDiv] at hf
      split at hf
      · rename_i h; cases hf; exact ⟨i, j, rfl, rfl, h, q _ H F S .refl (.int _)⟩
      · cases hf
    | _ => cases hf
  | _ => cases hf
end
end UM
set_option linter.all false
set_option Elab.async false
set_option maxRecDepth 100000
set_option maxHeartbeats 1000000
namespace UM
open PySem L2
def kget {α : Type} (kvs : List (Key × α)) (k : Key) : Option α := (kvs.find? fun kv => decide (kv.1 = k)).map (·.2)
def kput {α : Type} (kvs : List (Key × α)) (k : Key) (v : α) : List (Key × α) :=
  if (kvs.any fun kv => decide (kv.1 = k)) = true then kvs.map (fun kv => if kv.1 = k then (kv.1, v) else kv) else kvs ++ [(k, v)]
def kmerge {α : Type} (kvs more : List (Key × α)) : List (Key × α) := more.foldl (fun acc kv => kput acc kv.1 kv.2) kvs
def toKey : U → Option Key
  | .int i => some (.inl i)
  | .str x => some (.inr x)
  | _ => none
section
variable {t sc : Addr} {F : Addr → Prop} {H : Hp}
theorem Rep.key {v : V} {u : U} {k : Key} (r : Rep t sc F H v u) (h : toKey u = some k) : v = kV k := by
  cases r <;> cases h <;> rfl
theorem RepK.get : ∀ {kvs : List (Key × V)} {kus : List (Key × U)}, RepK t sc F H kvs kus → ∀ k, (∃ v u, valV kvs k = some v ∧ kget kus k = some u ∧ Rep t sc F H v u) ∨ (valV kvs k = none ∧ kget kus k = none)
  | _, _, .nil, k => .inr ⟨rfl, rfl⟩
  | _, _, .cons (k := k') (v := v) (u := u) (vs := vs) (us := us) h r, k => by
    by_cases e : k' = k
    · exact .inl ⟨v, u, by simp [valV, List.find?_cons, e], by simp [kget, List.find?_cons, e], h⟩
    · have e1 : valV ((k', v) :: vs) k = valV vs k := by simp [valV, List.find?_cons, e]
      have e2 : kget ((k', u) :: us) k = kget us k := by simp [kget, List.find?_cons, e]
      rw [e1, e2]
      exact RepK.get r k
theorem RepK.length : ∀ {kvs : List (Key × V)} {kus : List (Key × U)}, RepK t sc F H kvs kus → kvs.length = kus.length
  | _, _, .nil => rfl
  | _, _, .cons _ r => by simp [RepK.length r]
theorem RepK.append : ∀ {a c : List (Key × V)} {b d : List (Key × U)}, RepK t sc F H a b → RepK t sc F H c d → RepK t sc F H (a ++ c) (b ++ d)
  | _, _, _, _, .nil, s => s
  | _, _, _, _, .cons h r, s => .cons h (RepK.append r s)
theorem RepK.any : ∀ {kvs : List (Key × V)} {kus : List (Key × U)}, RepK t sc F H kvs kus → ∀ k : Key, (kvs.any fun kv => decide (kv.1 = k)) = kus.any fun kv => decide (kv.1 = k)
  | _, _, .nil, _ => rfl
  | _, _, .cons _ r, k => by simp only [List.any_cons]; rw [RepK.any r k]
theorem RepK.upd {v : V} {u : U} (hr : Rep t sc F H v u) (k : Key) : ∀ {kvs : List (Key × V)} {kus : List (Key × U)}, RepK t sc F H kvs kus → RepK t sc F H (kvs.map fun kv => if kv.1 = k then (kv.1, v) else kv) (kus.map fun kv => if kv.1 = k then (kv.1, u) else kv)
  | _, _, .nil => .nil
  | _, _, .cons (k := k') h r => by
    simp only [List.map_cons]
    by_cases e : k' = k
    · rw [if_pos e, if_pos e]; exact .cons hr (RepK.upd hr k r)
    · rw [if_neg e, if_neg e]; exact .cons h (RepK.upd hr k r)
theorem RepK.put {v : V} {u : U} (hr : Rep t sc F H v u) (k : Key) {kvs : List (Key × V)} {kus : List (Key × U)} (r : RepK t sc F H kvs kus) : RepK t sc F H (putK kvs k v) (kput kus k u) := by
  unfold putK kput
  rw [r.any k]
  split
  · exact r.upd hr k
  · exact r.append (.cons hr .nil)
theorem RepK.merge : ∀ {more : List (Key × V)} {moreU : List (Key × U)}, RepK t sc F H more moreU → ∀ {kvs : List (Key × V)} {kus : List (Key × U)}, RepK t sc F H kvs kus → RepK t sc F H (mergeK kvs more) (kmerge kus moreU)
  | _, _, .nil, _, _, r => r
  | _, _, .cons h m, _, _, r => RepK.merge m (r.put h _)
theorem RepK.keys : ∀ {kvs : List (Key × V)} {kus : List (Key × U)}, RepK t sc F H kvs kus → kvs.map (·.1) = kus.map (·.1)
  | _, _, .nil => rfl
  | _, _, .cons _ r => by simp only [List.map_cons]; rw [RepK.keys r]
end
def fIdx : U → U → Option U
  | .tup xs, .int i => atI xs i
  | .lst xs, .int i => atI xs i
  | .str z, .int i => if z.length ≤ 1000 then (atI z.cps.toList i).map fun c => .str ⟨#[c]⟩ else none
  | .dct kvs, k => (toKey k).bind (kget kvs)
  | _, _ => none
theorem atI_reps {t sc : Addr} {F : Addr → Prop} {H : Hp} {vs : List V} {us : List U} {i : Int} {u : U} (r : Reps t sc F H vs us) (h : atI us i = some u) : ∃ v, atI vs i = some v ∧ Rep t sc F H v u := by
  unfold atI at h ⊢
  rw [r.length]
  obtain ⟨j, e, h⟩ := ob h
  obtain ⟨v, e1, e2⟩ := r.get h
  exact ⟨v, by rw [e]; exact e1, e2⟩
section
variable {X : Cx} {Ps : Tb} {O : List Nat} {a b c : Expr} {es : List Expr} {ma mb mc : EM} {ms : AM} {pos : Pos}
theorem pev_idx (hu : X.A.units + 1 < cLine) (ha : PEV X Ps O a ma) (hb : PEV X Ps O b mb) (hs : PlainIx b) : PEV X Ps O (.Subscript a b pos) (eBin fIdx ma mb) := by
  refine ⟨impE (orE (pe_ix ix_seq ha.pe hb.pe hs) (pe_dget hu ha.pe hb.pe hs)) fun σ H Q hq => ?_⟩
  obtain ⟨G, F, env, k, u, k', S, hm, q⟩ := hq
  obtain ⟨⟨x, k1⟩, h1, hm⟩ := ob hm
  obtain ⟨⟨y, k2⟩, h2, hm⟩ := ob hm
  obtain ⟨u', h3, hm⟩ := ob hm
  cases hm
  by_cases hd : ∃ kvs, x = .dct kvs
  · obtain ⟨kus, rfl⟩ := hd
    refine .inr ⟨G, F, env, k, _, k1, S, h1, fun v H1 F1 S1 m1 r1 => ⟨G, F1, env, k1, y, k2, S1, h2, fun w H2 F2 S2 m2 r2 => ?_⟩⟩
    obtain ⟨ky, e1, e2⟩ := ob (show (toKey y).bind (kget kus) = some _ from h3)
    have r1' := r1.mono m2.mo
    cases r1' with
    | dct f h r =>
      rcases r.get ky with ⟨v0, u0, g1, g2, g3⟩ | ⟨_, g⟩
      · rw [g2] at e2; cases e2
        exact ⟨_, v0, rfl, .inl ⟨_, ky, h, r2.key e1, g1.symm⟩, q v0 H2 F2 S2 (m1.trans m2) g3⟩
      · rw [g] at e2; cases e2
  · refine .inl ⟨G, F, env, k, x, k1, S, h1, fun v H1 F1 S1 m1 r1 => ⟨G, F1, env, k1, y, k2, S1, h2, fun w H2 F2 S2 m2 r2 => ?_⟩⟩
    have r1' := r1.mono m2.mo
    cases r1' with
    | tup f h r =>
      cases r2 with
      | int i =>
        obtain ⟨v0, g1, g2⟩ := atI_reps r h3
        exact .inr (.inl ⟨_, _, i, v0, rfl, rfl, SqT.of h, g1, q v0 H2 F2 S2 (m1.trans m2) g2⟩)
      | _ => cases h3
    | lst f h r =>
      cases r2 with
      | int i =>
        obtain ⟨v0, g1, g2⟩ := atI_reps r h3
        exact .inl ⟨_, _, i, v0, rfl, rfl, SqL.of h, g1, q v0 H2 F2 S2 (m1.trans m2) g2⟩
      | _ => cases h3
    | str z =>
      cases r2 with
      | int i =>
        simp only [fIdx] at h3
        split at h3
        · rename_i hl
          cases e : atI z.cps.toList i with
          | none => rw [e] at h3; cases h3
          | some c0 =>
            rw [e] at h3; cases h3
            exact .inr (.inr ⟨z, i, c0, rfl, rfl, size1000 hl, e, q _ H2 F2 S2 (m1.trans m2) (.str _)⟩)
        · cases h3
      | _ => cases h3
    | dct f h r => exact absurd ⟨_, rfl⟩ hd
    | _ => cases h3
def CallU (r : List V → Hp → VK → Prop) (f : List U → Option U) : Prop := ∀ {K : PySem.W.Frag} {Ps : Tb} {G : Gx} {O : List Nat} {F : Addr → Prop} {H : Hp} {σ : St} {env : En} {k : Nat} {Q : VK} {vs : List V} {us : List U} {u : U},
  SR K Ps G O F H σ env k → Reps G.t G.sc F H vs us → f us = some u → (∀ z H' F', SR K Ps G O F' H' σ env k → Stp G F H F' H' → Rep G.t G.sc F' H' z u → Q z H') → r vs H Q
theorem cb_imp {r : List V → Hp → VK → Prop} {f : List U → Option U} (h : CallU r f) {K : PySem.W.Frag} {σ : St} {H : Hp} {Q : VK} (hq : tM K Ps O (eFn f ms) σ H Q) : tCB r (tMA K Ps O ms) σ H Q := by
  obtain ⟨G, F, env, k, u, k', S, hm, q⟩ := hq
  obtain ⟨⟨xs, k1⟩, h1, hm⟩ := ob hm
  obtain ⟨u', h3, hm⟩ := ob hm
  cases hm
  exact ⟨G, F, env, k, xs, _, S, h1, fun vs H1 F1 S1 m1 r1 => h S1 r1 h3 fun z H2 F2 S2 m2 r2 => q z H2 F2 S2 (m1.trans m2) r2⟩
theorem pev_callB {r : List V → Hp → VK → Prop} {f : List U → Option U} {x : Str} {id : String} {p : Pos} (hc : CallR X (.builtin id) r) (h : CallU r f) (hg : Gl X x) (hm : X.mg x = none) (hv : bootBuiltins x = some (.builtin id)) (ha : PAV X Ps O (a :: es) ms) (hn : x ≠ "__name__" := by decide) (hdb : (x == ("__debug__" : Str)) = false := by decide)
    (he : starEach (a :: es) X.env = (false, eval a X.env) :: starEach es X.env := by rfl) (hpl : (backTo pos (starEach es X.env)).any (·.1) = false := by rfl) : PEV X Ps O (.Call (.Name x p) (a :: es) [] pos) (eFn f ms) :=
  ⟨impE (pe_callB hc hg hm hv ha.pa hn hdb he hpl) fun σ H Q hq => cb_imp h hq⟩
theorem pev_callT {r : List V → Hp → VK → Prop} {f : List U → Option U} {x : Str} {id : String} {p : Pos} (hc : CallR X (.type id) r) (h : CallU r f) (hg : Gl X x) (hm : X.mg x = none) (hv : bootBuiltins x = some (.type id)) (ha : PAV X Ps O (a :: es) ms) (hn : x ≠ "__name__" := by decide) (hdb : (x == ("__debug__" : Str)) = false := by decide)
    (he : starEach (a :: es) X.env = (false, eval a X.env) :: starEach es X.env := by rfl) (hpl : (backTo pos (starEach es X.env)).any (·.1) = false := by rfl) : PEV X Ps O (.Call (.Name x p) (a :: es) [] pos) (eFn f ms) :=
  ⟨impE (pe_callTy hc hg hm hv ha.pa hn hdb he hpl) fun σ H Q hq => cb_imp h hq⟩
theorem CallR.or {f : Value} {r r' : List V → Hp → VK → Prop} (h : CallR X f r) (h' : CallR X f r') : CallR X f (fun vs H Q => r vs H Q ∨ r' vs H Q) := fun pins s σ H vs us Q I r0 q => q.elim (h pins s σ H vs us Q I r0) (h' pins s σ H vs us Q I r0)
def fLen : List U → Option U
  | [.tup xs] => some (.int xs.length)
  | [.lst xs] => some (.int xs.length)
  | [.dct xs] => some (.int xs.length)
  | [.str z] => if z.length ≤ 1000 then some (.int z.length) else none
  | _ => none
theorem cr_lenD : CallR X (.builtin "len") (fun xs H Q => ∃ a kvs, xs = [V.ref a] ∧ Rd H a (.dK kvs) ∧ Q (.int kvs.length) H) := by
  intro pins s σ H xs us Q I r h
  obtain ⟨a, kvs, rfl, ha, q⟩ := h
  obtain ⟨u, rfl, ru⟩ := vals1 r
  cases ru
  exact d_len I ha fun t s' I' => ⟨.int kvs.length, H, I', ⟨t, rfl⟩, q⟩
theorem cr_len : CallR X (.builtin "len") (fun vs H Q => (∃ x n, vs = [x] ∧ LenV X.K x H n ∧ Q (.int n) H) ∨ ∃ a kvs, vs = [V.ref a] ∧ Rd H a (.dK kvs) ∧ Q (.int kvs.length) H) := CallR.or call_len cr_lenD
theorem cu_len (K' : PySem.W.Frag) : CallU (fun vs H Q => (∃ x n, vs = [x] ∧ LenV K' x H n ∧ Q (.int n) H) ∨ ∃ a kvs, vs = [V.ref a] ∧ Rd H a (.dK kvs) ∧ Q (.int kvs.length) H) fLen := by
  intro K Ps G O F H σ env k Q vs us u S r hf q
  cases r with
  | nil => cases hf
  | cons h1 r =>
    cases r with
    | cons _ _ => revert hf; cases h1 <;> exact fun z => nomatch z
    | nil =>
      cases h1 with
      | tup f h r => cases hf; exact .inl ⟨_, _, rfl, .inr ⟨_, SqT.of h, rfl⟩, by rw [r.length]; exact q _ H F S .refl (.int _)⟩
      | lst f h r => cases hf; exact .inl ⟨_, _, rfl, .inl ⟨_, SqL.of h, rfl⟩, by rw [r.length]; exact q _ H F S .refl (.int _)⟩
      | dct f h r => cases hf; exact .inr ⟨_, _, rfl, h, by rw [r.length]; exact q _ H F S .refl (.int _)⟩
      | str z =>
        simp only [fLen] at hf
        split at hf
        · rename_i hl
          cases hf
          exact .inl ⟨_, _, rfl, ⟨size1000 hl, rfl⟩, q _ H F S .refl (.int _)⟩
        · cases hf
      | _ => cases hf
def fTuple : List U → Option U
  | [.tup xs] => some (.tup xs)
  | [.lst xs] => some (.tup xs)
  | _ => none
def fList : List U → Option U
  | [.tup xs] => some (.lst xs)
  | [.lst xs] => some (.lst xs)
  | _ => none
theorem cu_tuple (K' : PySem.W.Frag) : CallU (fun xs H Q => ∃ p ys, xs = [.ref p] ∧ ((SqL K' H p ys ∧ ∀ l, H l = none → Q (.ref l) (upd H l (.tup ys))) ∨ (SqT K' H p ys ∧ Q (.ref p) H))) fTuple := by
  intro K Ps G O F H σ env k Q vs us u S r hf q
  cases r with
  | nil => cases hf
  | cons h1 r =>
    cases r with
    | cons _ _ => revert hf; cases h1 <;> exact fun z => nomatch z
    | nil =>
      cases h1 with
      | tup f h r => cases hf; exact ⟨_, _, rfl, .inr ⟨SqT.of h, q _ H F S .refl (.tup f h r)⟩⟩
      | @lst a ws us f h r =>
        cases hf
        refine ⟨_, _, rfl, .inl ⟨SqL.of h, fun p hp => ?_⟩⟩
        have st := stp_alloc (o := .tup ws) S.b hp (by intro ps z; cases z)
        exact q _ _ _ (S.step st (S.b.alloc (o := .tup ws) hp (by intro ps z; cases z)).1) st (.tup (.inr rfl) upd_same (r.mono st.mo))
      | _ => cases hf
def intsU : List U → Option (List Int)
  | [] => some []
  | .int i :: r => (intsU r).map (i :: ·)
  | _ :: _ => none
def fSum : List U → Option U
  | [.lst xs] => (intsU xs).map fun ns => .int ns.sum
  | _ => none
theorem intsU_reps {t sc : Addr} {F : Addr → Prop} {H : Hp} : ∀ {us : List U} {vs : List V} {ns : List Int}, Reps t sc F H vs us → intsU us = some ns → vs = ns.map V.int
  | [], _, _, .nil, h => by cases h; rfl
  | u :: us, _, ns, .cons h1 r, h => by
    cases u with
    | int i =>
      simp only [intsU] at h
      cases e : intsU us with
      | none => rw [e] at h; cases h
      | some ms =>
        rw [e] at h; cases h
        cases h1
        rw [List.map_cons, intsU_reps r e]
    | _ => cases h
theorem cu_sum (K' : PySem.W.Frag) : CallU (rSum K') fSum := by
  intro K Ps G O F H σ env k Q vs us u S r hf q
  cases r with
  | nil => cases hf
  | cons h1 r =>
    cases r with
    | cons _ _ => revert hf; cases h1 <;> exact fun z => nomatch z
    | nil =>
      cases h1 with
      | @lst a ws xs f h r =>
        simp only [fSum] at hf
        cases e : intsU xs with
        | none => rw [e] at hf; cases hf
        | some ns =>
          rw [e] at hf; cases hf
          refine ⟨a, ns, rfl, ?_, q _ H F S .refl (.int _)⟩
          rw [← intsU_reps r e]
          exact SqL.of h
      | _ => cases hf
def pairU : U → Option (Key × U)
  | .tup [k, v] => (toKey k).map fun k => (k, v)
  | _ => none
def pairsU : List U → Option (List (Key × U))
  | [] => some []
  | u :: us => (pairU u).bind fun p => (pairsU us).map (p :: ·)
def fDict : List U → Option U
  | [.dct kvs] => some (.dct kvs)
  | [.lst ps] => (pairsU ps).map fun kvs => .dct (kmerge [] kvs)
  | [.tup ps] => (pairsU ps).map fun kvs => .dct (kmerge [] kvs)
  | _ => none
theorem cr_dictD : CallR X (.type "dict") (fun xs H Q => ∃ a kvs, xs = [V.ref a] ∧ Rd H a (.dK kvs) ∧ ∀ p, H p = none → Q (.ref p) (upd H p (.dK kvs))) := by
  intro pins s σ H xs us Q I r h
  obtain ⟨a, kvs, rfl, ha, q⟩ := h
  obtain ⟨u, rfl, ru⟩ := vals1 r
  cases ru
  exact d_copyOf I ha fun p s' hp I' => ⟨.ref p, _, I', rfl, q p hp⟩
def rDictU (K : PySem.W.Frag) : List V → Hp → VK → Prop := fun xs H Q => (∃ a kvs, xs = [V.ref a] ∧ Rd H a (.dK kvs) ∧ ∀ p, H p = none → Q (.ref p) (upd H p (.dK kvs))) ∨
  (∃ (a : Addr) (ps : List Addr) (kvs : List (Key × V)), xs = [.ref a] ∧ SqL K H a (ps.map V.ref) ∧ Paired (fun p kv => SqT K H p [kV kv.1, kv.2]) ps kvs ∧ ∀ p, H p = none → Q (.ref p) (upd H p (.dK (mergeK [] kvs)))) ∨
  (∃ (a : Addr) (ps : List Addr) (kvs : List (Key × V)), xs = [.ref a] ∧ H a = some (.tup (ps.map V.ref)) ∧ Paired (fun p kv => SqT K H p [kV kv.1, kv.2]) ps kvs ∧ ∀ p, H p = none → Q (.ref p) (upd H p (.dK (mergeK [] kvs))))
theorem cr_dict (hc : X.calm = true) : CallR X (.type "dict") (rDictU X.K) := CallR.or cr_dictD (CallR.or (call_dictP hc) (call_dictT hc))
theorem pairsU_reps {t sc : Addr} {F : Addr → Prop} {H : Hp} {K : PySem.W.Frag} : ∀ {us : List U} {vs : List V} {kus : List (Key × U)}, Reps t sc F H vs us → pairsU us = some kus → ∃ ps kvs, vs = ps.map V.ref ∧ Paired (fun p (kv : Key × V) => SqT K H p [kV kv.1, kv.2]) ps kvs ∧ RepK t sc F H kvs kus
  | [], _, _, .nil, h => by cases h; exact ⟨[], [], rfl, .nil, .nil⟩
  | u :: us, _, kus, .cons h1 r, h => by
    simp only [pairsU] at h
    obtain ⟨p, e1, h⟩ := ob h
    cases e : pairsU us with
    | none => rw [e] at h; cases h
    | some ms =>
      rw [e] at h; cases h
      obtain ⟨ps, kvs, g1, g2, g3⟩ := pairsU_reps (K := K) r e
      cases h1 with
      | @tup a ws xs f hH rr =>
        match xs, e1 with
        | [x, y], e1 =>
          simp only [pairU] at e1
          cases ek : toKey x with
          | none => rw [ek] at e1; cases e1
          | some key =>
            rw [ek] at e1; cases e1
            cases rr with
            | cons rx rr =>
              cases rr with
              | cons ry rr =>
                cases rr
                rename_i vx vy
                have ex := rx.key ek
                subst ex
                exact ⟨a :: ps, (key, vy) :: kvs, by rw [List.map_cons, ← g1], .cons (SqT.of hH) g2, .cons ry g3⟩
      | _ => cases e1
theorem cu_dict (K' : PySem.W.Frag) : CallU (rDictU K') fDict := by
  intro K Ps G O F H σ env k Q vs us u S r hf q
  have fin : ∀ {kvs : List (Key × V)} {kus : List (Key × U)}, RepK G.t G.sc F H kvs kus → u = .dct kus → ∀ p, H p = none → Q (.ref p) (upd H p (.dK kvs)) := fun {kvs kus} r e p hp => by
    subst e
    have st := stp_alloc (o := .dK kvs) S.b hp (by intro ps z; cases z)
    exact q _ _ _ (S.step st (S.b.alloc (o := .dK kvs) hp (by intro ps z; cases z)).1) st (.dct (.inr rfl) (.inl upd_same) (r.mono st.mo))
  cases r with
  | nil => cases hf
  | cons h1 r =>
    cases r with
    | cons _ _ => revert hf; cases h1 <;> exact fun z => nomatch z
    | nil =>
      cases h1 with
      | dct f h r => cases hf; exact .inl ⟨_, _, rfl, h, fin r rfl⟩
      | @lst a ws xs f h r =>
        simp only [fDict] at hf
        cases e : pairsU xs with
        | none => rw [e] at hf; cases hf
        | some kus =>
          rw [e] at hf
          have hf : some (U.dct (kmerge [] kus)) = some u := hf
          obtain ⟨ps, kvs, g1, g2, g3⟩ := pairsU_reps (K := K') r e
          subst g1
          exact .inr (.inl ⟨a, ps, kvs, rfl, SqL.of h, g2, fin (g3.merge .nil) (Option.some.inj hf).symm⟩)
      | @tup a ws xs f h r =>
        simp only [fDict] at hf
        cases e : pairsU xs with
        | none => rw [e] at hf; cases hf
        | some kus =>
          rw [e] at hf
          have hf : some (U.dct (kmerge [] kus)) = some u := hf
          obtain ⟨ps, kvs, g1, g2, g3⟩ := pairsU_reps (K := K') r e
          subst g1
          exact .inr (.inr ⟨a, ps, kvs, rfl, h, g2, fin (g3.merge .nil) (Option.some.inj hf).symm⟩)
      | _ => cases hf
end
end UM
set_option linter.all false
set_option Elab.async false
set_option maxRecDepth 100000
set_option maxHeartbeats 1000000
namespace UM
open PySem PySem.Spec L2
def leS (a b : Str) : Bool := !ltCps b.cps.toList a.cps.toList
def sortS (l : List Str) : List Str := l.mergeSort leS
theorem leS_iff {a b : Str} : leS a b = true ↔ a.cps.toList ≤ b.cps.toList := by
  unfold leS
  rw [PyProof.Rows.ltCps_eq]
  simp
theorem leS_trans {a b c : Str} (h1 : leS a b = true) (h2 : leS b c = true) : leS a c = true := leS_iff.mpr (List.le_trans (leS_iff.mp h1) (leS_iff.mp h2))
theorem leS_total (a b : Str) : (leS a b || leS b a) = true := by
  rcases List.le_total a.cps.toList b.cps.toList with h | h
  · rw [leS_iff.mpr h]; rfl
  · rw [leS_iff.mpr h]; simp
theorem str_ext {a b : Str} (h : a.cps.toList = b.cps.toList) : a = b := by
  cases a; cases b; congr 1; exact Array.toList_inj.mp h
theorem leS_antisymm {a b : Str} (h1 : leS a b = true) (h2 : leS b a = true) : a = b := str_ext (List.le_antisymm (leS_iff.mp h1) (leS_iff.mp h2))
theorem perm_unique {α : Type} {r : α → α → Prop} (anti : ∀ a b, r a b → r b a → a = b) : ∀ {l1 l2 : List α}, l1.Perm l2 → l1.Pairwise r → l2.Pairwise r → l1 = l2
  | [], l2, hp, _, _ => hp.nil_eq
  | a :: l1, [], hp, _, _ => by have := hp.length_eq; simp at this
  | a :: l1, b :: l2, hp, h1, h2 => by
    have e : a = b := by
      have ha : a ∈ b :: l2 := hp.mem_iff.mp List.mem_cons_self
      have hb : b ∈ a :: l1 := hp.mem_iff.mpr List.mem_cons_self
      rcases List.mem_cons.mp ha with e | ha
      · exact e
      · rcases List.mem_cons.mp hb with e | hb
        · exact e.symm
        · exact anti a b ((List.pairwise_cons.mp h1).1 b hb) ((List.pairwise_cons.mp h2).1 a ha)
    subst e
    rw [perm_unique anti (List.Perm.cons_inv hp) (List.pairwise_cons.mp h1).2 (List.pairwise_cons.mp h2).2]
theorem risingS_pw : ∀ {p : Str} {l : List Str}, PyProof.Rows.risingS p l = true → (p :: l).Pairwise (fun a b => leS a b = true)
  | p, [], _ => by simp
  | p, x :: r, h => by
    have h' : (!ltCps x.cps.toList p.cps.toList && PyProof.Rows.risingS x r) = true := h
    rw [Bool.and_eq_true] at h'
    have ih := risingS_pw h'.2
    refine List.pairwise_cons.mpr ⟨fun b hb => ?_, ih⟩
    rcases List.mem_cons.mp hb with e | hb
    · rw [e]; exact h'.1
    · exact leS_trans h'.1 ((List.pairwise_cons.mp ih).1 b hb)
theorem sortedS_pw : ∀ {l : List Str}, PyProof.Rows.sortedS l = true → l.Pairwise (fun a b => leS a b = true)
  | [], _ => .nil
  | x :: r, h => risingS_pw h
theorem sortS_pw (l : List Str) : (sortS l).Pairwise (fun a b => leS a b = true) := List.pairwise_mergeSort (le := leS) (fun _ _ _ h1 h2 => leS_trans h1 h2) leS_total l
theorem sortS_perm (l : List Str) : (sortS l).Perm l := List.mergeSort_perm l leS
theorem sortS_unique {ys l : List Str} (hp : ys.Perm l) (hs : PyProof.Rows.sortedS ys = true) : ys = sortS l :=
  perm_unique (fun _ _ => leS_antisymm) (hp.trans (sortS_perm l).symm) (sortedS_pw hs) (sortS_pw l)
def sortI (l : List Int) : List Int := l.mergeSort fun a b => decide (a ≤ b)
theorem sortI_unique {ys l : List Int} (hp : ys.Perm l) (hs : ys.Pairwise (· ≤ ·)) : ys = sortI l := by
  refine perm_unique (r := (· ≤ ·)) (fun a b h1 h2 => Int.le_antisymm h1 h2) (hp.trans (List.mergeSort_perm l _).symm) hs ?_
  have h := List.pairwise_mergeSort (le := fun a b : Int => decide (a ≤ b)) (fun a b c h1 h2 => by simp at *; omega) (fun a b => by simp; omega) l
  exact h.imp fun h => by simpa using h
def strsU : List U → Option (List Str)
  | [] => some []
  | .str i :: r => (strsU r).map (i :: ·)
  | _ :: _ => none
def strKs {α : Type} : List (Key × α) → Option (List Str)
  | [] => some []
  | (.inr i, _) :: r => (strKs r).map (i :: ·)
  | _ :: _ => none
def fSorted : List U → Option U
  | [.lst xs] => match strsU xs, intsU xs with
    | some ss, _ => if ss.length < 64 then some (.lst ((sortS ss).map U.str)) else none
    | none, some ns => if ns.length < 64 then some (.lst ((sortI ns).map U.int)) else none
    | none, none => none
  | [.dct kvs] => (strKs kvs).bind fun ss => if ss.length < 64 then some (.lst ((sortS ss).map U.str)) else none
  | _ => none
theorem strsU_reps {t sc : Addr} {F : Addr → Prop} {H : Hp} : ∀ {us : List U} {vs : List V} {ns : List Str}, Reps t sc F H vs us → strsU us = some ns → vs = ns.map V.str
  | [], _, _, .nil, h => by cases h; rfl
  | u :: us, _, ns, .cons h1 r, h => by
    cases u with
    | str i =>
      simp only [strsU] at h
      cases e : strsU us with
      | none => rw [e] at h; cases h
      | some ms =>
        rw [e] at h; cases h
        cases h1
        rw [List.map_cons, strsU_reps r e]
    | _ => cases h
theorem strKs_keys {α : Type} : ∀ {kvs : List (Key × α)} {ss : List Str}, strKs kvs = some ss → kvs.map (·.1) = ss.map Sum.inr
  | [], _, h => by cases h; rfl
  | (k, v) :: r, ss, h => by
    cases k with
    | inl i => cases h
    | inr x =>
      simp only [strKs] at h
      cases e : strKs r with
      | none => rw [e] at h; cases h
      | some ms =>
        rw [e] at h; cases h
        simp only [List.map_cons]
        rw [strKs_keys e]
theorem reps_strs {t sc : Addr} {F : Addr → Prop} {H : Hp} : ∀ ss : List Str, Reps t sc F H (ss.map V.str) (ss.map U.str)
  | [] => .nil
  | s :: r => .cons (.str s) (reps_strs r)
theorem reps_ints {t sc : Addr} {F : Addr → Prop} {H : Hp} : ∀ ss : List Int, Reps t sc F H (ss.map V.int) (ss.map U.int)
  | [] => .nil
  | s :: r => .cons (.int s) (reps_ints r)
section
variable {X : Cx} {Ps : Tb} {O : List Nat} {a b c : Expr} {es : List Expr} {ma mb mc : EM} {ms : AM} {pos : Pos}
def rSortedU (K : PySem.W.Frag) : List V → Hp → VK → Prop := fun vs H Q => rSorted K vs H Q ∨ rSortedS K vs H Q ∨ rSortedD vs H Q
theorem cr_sortedU (hc : X.calm = true) : CallR X (.builtin "sorted") (rSortedU X.K) := CallR.or cr_sorted (CallR.or cr_sortedS (cr_sortedD hc))
theorem cu_sorted (K' : PySem.W.Frag) : CallU (rSortedU K') fSorted := by
  intro K Ps G O F H σ env k Q vs us u S r hf q
  have finS : ∀ {ss : List Str}, u = .lst ((sortS ss).map U.str) → ∀ (ys : List Str) (p : Addr), ys.Perm ss → PyProof.Rows.sortedS ys = true → H p = none → Q (.ref p) (upd H p (.lst (ys.map V.str))) := fun {ss} e ys p h1 h2 hp => by
    subst e
    rw [sortS_unique h1 h2]
    have st := stp_alloc (o := .lst ((sortS ss).map V.str)) S.b hp (by intro ps z; cases z)
    exact q _ _ _ (S.step st (S.b.alloc (o := .lst ((sortS ss).map V.str)) hp (by intro ps z; cases z)).1) st (.lst (.inr rfl) upd_same (reps_strs _))
  have finI : ∀ {ss : List Int}, u = .lst ((sortI ss).map U.int) → ∀ (ys : List Int) (p : Addr), ys.Perm ss → ys.Pairwise (· ≤ ·) → H p = none → Q (.ref p) (upd H p (.lst (ys.map V.int))) := fun {ss} e ys p h1 h2 hp => by
    subst e
    rw [sortI_unique h1 h2]
    have st := stp_alloc (o := .lst ((sortI ss).map V.int)) S.b hp (by intro ps z; cases z)
    exact q _ _ _ (S.step st (S.b.alloc (o := .lst ((sortI ss).map V.int)) hp (by intro ps z; cases z)).1) st (.lst (.inr rfl) upd_same (reps_ints _))
  cases r with
  | nil => cases hf
  | cons h1 r =>
    cases r with
    | cons _ _ => revert hf; cases h1 <;> exact fun z => nomatch z
    | nil =>
      cases h1 with
      | @lst a ws xs f h r =>
        simp only [fSorted] at hf
        cases e : strsU xs with
        | some ss =>
          rw [e] at hf
          dsimp only at hf
          split at hf
          · rename_i h64
            refine .inr (.inl ⟨a, ss, rfl, ?_, h64, finS (Option.some.inj hf).symm⟩)
            rw [← strsU_reps r e]
            exact SqL.of h
          · cases hf
        | none =>
          rw [e] at hf
          cases e2 : intsU xs with
          | none => rw [e2] at hf; cases hf
          | some ns =>
            rw [e2] at hf
            dsimp only at hf
            split at hf
            · rename_i h64
              refine .inl ⟨a, ns, rfl, ?_, h64, finI (Option.some.inj hf).symm⟩
              rw [← intsU_reps r e2]
              exact SqL.of h
            · cases hf
      | @dct a kvs kus f h r =>
        simp only [fSorted] at hf
        obtain ⟨ss, e, hf⟩ := ob hf
        split at hf
        · rename_i h64
          exact .inr (.inr ⟨a, kvs, ss, rfl, h, by rw [r.keys]; exact strKs_keys e, h64, finS (Option.some.inj hf).symm⟩)
        · cases hf
      | _ => cases hf
def eGet (d k x : EM) : EM := fun env n => (d env n).bind fun a => (k env a.2).bind fun b => (x env b.2).bind fun c => match a.1 with
  | .dct kvs => (toKey b.1).bind fun key => some ((kget kvs key).getD c.1, c.2)
  | _ => none
theorem pev_get {apos : Pos} (hu : X.A.units + 1 < cLine) (ho : PEV X Ps O a ma) (he : PEV X Ps O b mb) (hf : PEV X Ps O c mc) (m : M2 X a "get" apos b c pos) : PEV X Ps O (.Call (.Attribute a "get" apos) [b, c] [] pos) (eGet ma mb mc) := by
  refine ⟨impE (pe_dget2 hu ho.pe he.pe hf.pe m) fun σ H Q hq => ?_⟩
  obtain ⟨G, F, env, k, u, k', S, hm, q⟩ := hq
  obtain ⟨⟨x, k1⟩, h1, hm⟩ := ob hm
  obtain ⟨⟨y, k2⟩, h2, hm⟩ := ob hm
  obtain ⟨⟨z, k3⟩, h3, hm⟩ := ob hm
  refine ⟨G, F, env, k, x, k1, S, h1, fun v H1 F1 S1 m1 r1 => ?_⟩
  cases r1 with
  | @dct ad kvs kus f h r =>
    obtain ⟨key, e1, hm⟩ := ob hm
    cases hm
    refine ⟨ad, rfl, .inl ⟨_, h⟩, G, F1, env, k1, y, k2, S1, h2, fun w H2 F2 S2 m2 r2 => ⟨G, F2, env, k2, z, _, S2, h3, fun x3 H3 F3 S3 m3 r3 => ?_⟩⟩
    have hd := (m2.trans m3).mo.rd f h
    refine ⟨valV kvs key, .inl ⟨kvs, key, hd, r2.key e1, rfl⟩, ?_⟩
    have r' := r.mono (m2.trans m3).mo
    rcases r'.get key with ⟨v0, u0, g1, g2, g3⟩ | ⟨g1, g2⟩
    · rw [g1]
      exact q v0 H3 F3 S3 (m1.trans (m2.trans m3)) (by dsimp only; rw [g2]; exact g3)
    · rw [g1]
      exact q x3 H3 F3 S3 (m1.trans (m2.trans m3)) (by dsimp only; rw [g2]; exact r3)
  | _ => cases hm
end
end UM
set_option linter.all false
set_option Elab.async false
set_option maxRecDepth 100000
set_option maxHeartbeats 1000000
namespace UM
open PySem L2
def spM (K : PySem.W.Frag) (Ps : Tb) (n : Nat) (mf : List U → Nat → Option (U × Nat)) : Sp := fun vs H Q _ => vs.length = n ∧ ∃ G F us k u k', G.K = K ∧ G.Ps = Ps ∧ G.H0 = H ∧ G.F0 = F ∧ Base G F H k ∧ Reps G.t G.sc F H vs us ∧ mf us k = some (u, k') ∧
  ∀ v H' F', Base G F' H' k' → Mo F H F' H' → Rep G.t G.sc F' H' v u → Q v H'
def runM (N : Nat) (m : SM) : List U → Nat → Option (U × Nat) := fun us k => match m (us.map some ++ List.replicate (N - us.length) none) k with
  | some (.rt u, k') => some (u, k')
  | some (.nx _, k') => some (.non, k')
  | _ => none
def eCallN (n : Nat) (f : List U → Nat → Option (U × Nat)) (a : AM) : EM := fun env k => (a env k).bind fun x => if x.1.length = n then f x.1 x.2 else none
theorem SR.start {K : PySem.W.Frag} {Ps : Tb} {G : Gx} {F : Addr → Prop} {H : Hp} {k : Nat} {vs : List V} {us : List U} (N : List Str) (hK : G.K = K) (hP : G.Ps = Ps) (B : Base G F H k) (r : Reps G.t G.sc F H vs us) :
    SR K Ps G [] F H (start N vs) (us.map some ++ List.replicate (N.length - us.length) none) k := by
  refine ⟨hK, hP, B, by simp [L2.start, r.length], fun i u _ e => ?_, fun i hi => absurd hi (by simp), fun i j a hi => absurd hi (by simp)⟩
  have hlt : i < us.length := by
    by_cases h : i < us.length
    · exact h
    · rw [List.getElem?_append_right (by simpa using h), List.getElem?_replicate] at e
      split at e <;> cases e
  rw [List.getElem?_append_left (by simpa using hlt), List.getElem?_map] at e
  cases e1 : us[i]? with
  | none => rw [e1] at e; cases e
  | some u' =>
    rw [e1] at e; cases e
    obtain ⟨v, h1, h2⟩ := r.get e1
    refine ⟨v, ?_, h2⟩
    unfold L2.start
    rw [List.getElem?_append_left (by rw [List.length_map, r.length]; exact hlt), List.getElem?_map, h1]
    rfl
section
variable {P : Program} {w : World} {K : PySem.W.Frag} {mg : Str → Option Value} {base : Heap} {Ps : Tb}
theorem fn_M {x qual : Str} {st : Stmt} {f : Addr} {fd : FuncData} {N ps : List Str} {k : Nat} {m : SM} {O' : List Nat} (Fn : Fun K x qual st f fd) (S : FnScope N ps (defScope st))
    (hb : ∀ (cdv : Value) (A : Around) (outer : List Env) (s : Shared) (H : Hp) (E : XK), Room k (A.deeper (PyProof.Rows.envOfC qual (defScope st) s.heap.objs.size f cdv)) →
      PSsV (cxOf CX0 P w K mg base N qual (defScope st) f cdv A outer s H E).nox Ps [] [] O' (defBody st) m) :
    FnOk P w K mg base CX0 (k + 1) f fd ps (spM K Ps ps.length (runM N.length m)) := by
  refine Fn.ok S (fun vs H Q E h => h.1) fun cdv A outer s H vs Q E hr h => ?_
  obtain ⟨hl, G, F, us, k0, u, k', hK, hP, h0, hF, B, r, hm, q⟩ := h
  refine ⟨_, (hb cdv A outer s H E hr).ps, ?_⟩
  unfold runM at hm
  cases e : m (us.map some ++ List.replicate (N.length - us.length) none) k0 with
  | none => rw [e] at hm; cases hm
  | some c =>
    rw [e] at hm
    obtain ⟨c, k1⟩ := c
    refine ⟨G, F, _, k0, c, k1, SR.start N hK hP B r, e, ?_⟩
    cases c with
    | nx env => cases hm; exact fun σ' H' F' S' mo => q _ H' F' S'.b mo .non
    | rt u' => cases hm; exact fun v H' F' B' mo r' => q v H' F' B' mo r'
    | bk env => cases hm
    | ct env => cases hm
end
section
variable {X : Cx} {Ps : Tb} {Ob O O' O1 O2 : List Nat} {a b c : Expr} {es : List Expr} {ma mb mc : EM} {ms : AM} {pos : Pos} {st : Stmt} {sts : List Stmt} {m1 m2 : SM}
theorem pev_call {k n : Nat} {f : Addr} {fd : FuncData} {ps : List Str} {mf : List U → Nat → Option (U × Nat)} {x : Str} {p : Pos} (Fn : FnOk X.prog X.w X.K X.mg X.base CX0 k f fd ps (spM X.K Ps n mf)) (hr : Room k X.A) (hg : Gl X x) (hm : X.mg x = some (.ref f)) (hk : PySem.W.keepIn X.K (.ref f) = true) (hb : Binds X.K fd ps [])
    (ha : PAV X Ps O (a :: es) ms) (hdb : (x == ("__debug__" : Str)) = false := by decide) (he : starEach (a :: es) X.env = (false, eval a X.env) :: starEach es X.env := by rfl) (hpl : (backTo pos (starEach es X.env)).any (·.1) = false := by rfl) :
    PEV X Ps O (.Call (.Name x p) (a :: es) [] pos) (eCallN n mf ms) := by
  refine ⟨impE (pe_call Fn hr hg hm hk hb .nil pass0 ha.pa hdb he hpl) fun σ H Q hq => ?_⟩
  obtain ⟨G, F, env, k, u, k', S, hm, q⟩ := hq
  obtain ⟨⟨xs, k1⟩, h1, hm⟩ := ob hm
  dsimp only at hm
  split at hm
  · rename_i hl
    refine ⟨G, F, env, k, xs, k1, S, h1, fun vs H1 F1 S1 m1 r1 => ?_⟩
    show spM X.K Ps n mf (vs ++ []) H1 Q E0
    rw [List.append_nil]
    refine ⟨by rw [r1.length]; exact hl, { G with H0 := H1, F0 := F1 }, F1, xs, k1, u, k', S1.hK, S1.hP, rfl, rfl, S1.b.enter, r1, hm, fun v H2 F2 B2 mo2 r2 => ?_⟩
    have st := stp_leave S1.b B2 mo2
    exact q v H2 F2 (S1.step st (S1.b.leave B2)) (m1.trans st) r2
  · cases hm
def sSkip : SM := fun env k => some (.nx env, k)
def sSeq (a b : SM) : SM := fun env k => (a env k).bind fun x => match x.1 with
  | .nx env' => b env' x.2
  | c => some (c, x.2)
def sRet (e : EM) : SM := fun env k => (e env k).bind fun x => some (.rt x.1, x.2)
def sAsg (i : Nat) (e : EM) : SM := fun env k => (e env k).bind fun x => some (.nx (env.set i (some x.1)), x.2)
def sIf (c : BM) (a b : SM) : SM := fun env k => (c env k).bind fun x => if x.1 = true then a env x.2 else b env x.2
def sDrop (e : EM) : SM := fun env k => (e env k).bind fun x => some (.nx env, x.2)
theorem CtlOk.pre {K : PySem.W.Frag} {G : Gx} {F F' : Addr → Prop} {H H' : Hp} {D : Ends} {k : Nat} {c : Ctl} (h : CtlOk K Ps G Ob O F H D k c) (m : Mo F H F' H') : CtlOk K Ps G Ob O F' H' D k c := by
  cases c <;> exact fun x y z s n => h x y z s (m.trans n)
theorem pssv_nil : PSsV X Ps Ob O O [] sSkip := ⟨impSs pss_nil fun D σ H ⟨G, F, env, k, c, k', S, hm, q⟩ => by
  cases hm
  exact q σ H F S .refl⟩
theorem pssv_cons (h1 : PSV X Ps Ob O O1 st m1) (h2 : PSsV X Ps Ob O1 O2 sts m2) : PSsV X Ps Ob O O2 (st :: sts) (sSeq m1 m2) := ⟨impSs (pss_cons h1.ps h2.ps) fun D σ H ⟨G, F, env, k, c, k', S, hm, q⟩ => by
  obtain ⟨⟨c1, k1⟩, e1, hm⟩ := ob hm
  refine ⟨G, F, env, k, c1, k1, S, e1, ?_⟩
  cases c1 with
  | nx env' => exact fun σ' H' F' S' mo => ⟨G, F', env', k1, c, k', S', hm, q.pre mo⟩
  | rt u => cases hm; exact q
  | bk e => cases hm; exact q
  | ct e => cases hm; exact q⟩
theorem pssv_one (h1 : PSV X Ps Ob O O1 st m1) : PSsV X Ps Ob O O1 [st] m1 := ⟨pss_one h1.ps⟩
theorem psv_ret (ha : PEV X Ps O a ma) : PSV X Ps Ob O O' (.Return (some a) pos) (sRet ma) := ⟨impS (ps_ret ha.pe) fun D σ H ⟨G, F, env, k, c, k', S, hm, q⟩ => by
  obtain ⟨⟨u, k1⟩, e1, hm⟩ := ob hm
  cases hm
  exact ⟨G, F, env, k, u, _, S, e1, fun v H1 F1 S1 m1 r1 => q v H1 F1 S1.b m1.mo r1⟩⟩
theorem psv_if {m : BM} {ss : List Stmt} (hc : PBV X Ps O c m) (ha : PSsV X Ps Ob O O' sts m1) (hb : PSsV X Ps Ob O O' ss m2) : PSV X Ps Ob O O' (.If c sts ss pos) (sIf m m1 m2) := ⟨impS (ps_if hc.pt ha.ps hb.ps) fun D σ H ⟨G, F, env, k, c, k', S, hm, q⟩ => by
  obtain ⟨⟨b, k1⟩, e1, hm⟩ := ob hm
  refine ⟨G, F, env, k, b, k1, S, e1, fun H1 F1 S1 m1 => ?_⟩
  dsimp only at hm
  cases b with
  | true => exact iteT ⟨G, F1, env, k1, c, k', S1, hm, q.pre m1.mo⟩
  | false => exact iteF ⟨G, F1, env, k1, c, k', S1, hm, q.pre m1.mo⟩⟩
theorem psv_expr (ha : PEV X Ps O a ma) (hs : swapsWith a none pos.line X.env = pure false := by rfl) : PSV X Ps Ob O O (.Expr a pos) (sDrop ma) := ⟨impS (ps_expr ha.pe hs) fun D σ H ⟨G, F, env, k, c, k', S, hm, q⟩ => by
  obtain ⟨⟨u, k1⟩, e1, hm⟩ := ob hm
  cases hm
  exact ⟨G, F, env, k, u, _, S, e1, fun v H1 F1 S1 m1 r1 => q σ H1 F1 S1 m1.mo⟩⟩
theorem SR.asg {K : PySem.W.Frag} {G : Gx} {F : Addr → Prop} {H : Hp} {σ : St} {env : En} {k : Nat} (S : SR K Ps G O F H σ env k) {i : Nat} {v : V} {u : U} (hO : ∀ j, j ∈ O' ↔ (j ∈ O ∧ j ≠ i)) (r : Rep G.t G.sc F H v u) : SR K Ps G O' F H (σ.set i (some v)) (env.set i (some u)) k := by
  have S1 := S.wipe1 i
  have S2 : SR K Ps G O' F H (σ.set i none) (env.set i none) k := S1.drop (fun j hj => ((hO j).mp hj).1) fun j h1 h2 => by
    have e : j = i := by
      by_cases z : j = i
      · exact z
      · exact absurd ((hO j).mpr ⟨h1, z⟩) h2
    subst e
    by_cases hv : j < env.length
    · exact .inl (List.getElem?_set_self hv)
    · exact .inr (List.getElem?_eq_none (by simpa using hv))
  have S3 := S2.put (i := i) (v := v) (u := u) (fun h => ((hO i).mp h).2 rfl) r
  rw [List.set_set, List.set_set] at S3
  exact S3
theorem psv_asg (i : Nat) {x : Str} {pos' : Pos} (hN : X.N.Nodup) (hO : ∀ j, j ∈ O' ↔ (j ∈ O ∧ j ≠ i)) (ha : PEV X Ps O a ma) (hi : X.N[i]? = some x := by rfl) (hx : Loc X.env.scope x := by first | exact .inl rfl | exact .inr rfl) (hs : swapsWith a (some (.Name x pos')) pos.line X.env = pure false := by rfl)
    (hf : X.fn x = true ∨ X.env.scope.names.lookup x = some .local := by first | exact .inl rfl | exact .inr rfl | assumption) : PSV X Ps Ob O O' (.Assign [.Name x pos'] a pos) (sAsg i ma) := ⟨impS (ps_set hN hi hx ha.pe hs hf) fun D σ H ⟨G, F, env, k, c, k', S, hm, q⟩ => by
  obtain ⟨⟨u, k1⟩, e1, hm⟩ := ob hm
  cases hm
  exact ⟨G, F, env, k, u, _, S, e1, fun v H1 F1 S1 m1 r1 => q _ H1 F1 (S1.asg hO r1) m1.mo⟩⟩
abbrev GM := U → En → Option En
abbrev GMs := List U → En → Option En
def tMG (O vs : List Nat) (g : GM) : TG := fun v σ H Q => ∃ K Ps G F env env' k u, SR K Ps G O F H σ env k ∧ Rep G.t G.sc F H v u ∧ g u env = some env' ∧ ∀ σ', SR K Ps G O F H σ' env' k → L2.wipe σ' vs = L2.wipe σ vs → Q σ' H
def tMGs (O vs : List Nat) (g : GMs) : TGs := fun ws σ H Q => ∃ K Ps G F env env' k us, SR K Ps G O F H σ env k ∧ Reps G.t G.sc F H ws us ∧ g us env = some env' ∧ ∀ σ', SR K Ps G O F H σ' env' k → L2.wipe σ' vs = L2.wipe σ vs → Q σ' H
structure PGV (X : Cx) (O vs : List Nat) (tg : Expr) (g : GM) : Prop where
  pg : PG X tg (tMG O vs g)
structure PGsV (X : Cx) (O vs : List Nat) (tg : List Expr) (g : GMs) : Prop where
  pg : PGs X tg (tMGs O vs g)
def GOnly (vs : List Nat) (g : GM) : Prop := ∀ u env env', g u env = some env' → wipeE env' vs = wipeE env vs
def GsOnly (vs : List Nat) (g : GMs) : Prop := ∀ u env env', g u env = some env' → wipeE env' vs = wipeE env vs
def gNm (i : Nat) : GM := fun u env => some (env.set i (some u))
def gsNil : GMs := fun us env => match us with | [] => some env | _ => none
def gsCons (g : GM) (gs : GMs) : GMs := fun us env => match us with | [] => none | u :: r => (g u env).bind fun env' => gs r env'
def itemsT : U → Option (List U)
  | .tup us => some us
  | _ => none
def gTp (n : Nat) (gs : GMs) : GM := fun u env => (itemsT u).bind fun us => if us.length = n then gs us env else none
theorem wipe_setL (σ : St) (x : Option V) : ∀ {vs : List Nat} {i : Nat}, i ∈ vs → L2.wipe (σ.set i x) vs = L2.wipe σ vs
  | v :: vs, i, h => by
    unfold L2.wipe
    by_cases e : i ∈ vs
    · rw [wipe_setL σ x e]
    · have e2 : i = v := by
        rcases List.mem_cons.mp h with z | z
        · exact z
        · exact absurd z e
      subst e2
      have key : ∀ ws : List Nat, i ∉ ws → L2.wipe (σ.set i x) ws = (L2.wipe σ ws).set i x := fun ws => by
        induction ws with
        | nil => intro _; rfl
        | cons w ws ih =>
          intro hn
          unfold L2.wipe
          rw [ih fun z => hn (List.mem_cons_of_mem _ z), List.set_comm _ _ (fun z => hn (by rw [z]; exact List.mem_cons_self))]
      rw [key vs e, List.set_set]
theorem wipe_setE (env : En) (x : Option U) : ∀ {vs : List Nat} {i : Nat}, i ∈ vs → wipeE (env.set i x) vs = wipeE env vs
  | v :: vs, i, h => by
    unfold wipeE
    by_cases e : i ∈ vs
    · rw [wipe_setE env x e]
    · have e2 : i = v := by
        rcases List.mem_cons.mp h with z | z
        · exact z
        · exact absurd z e
      subst e2
      have key : ∀ ws : List Nat, i ∉ ws → wipeE (env.set i x) ws = (wipeE env ws).set i x := fun ws => by
        induction ws with
        | nil => intro _; rfl
        | cons w ws ih =>
          intro hn
          unfold wipeE
          rw [ih fun z => hn (List.mem_cons_of_mem _ z), List.set_comm _ _ (fun z => hn (by rw [z]; exact List.mem_cons_self))]
      rw [key vs e, List.set_set]
theorem wipeL_idem (σ : St) : ∀ vs : List Nat, L2.wipe (L2.wipe σ vs) vs = L2.wipe σ vs := fun vs => by
  have key : ∀ (σ : St) (ws : List Nat), (∀ x ∈ ws, x ∈ vs) → L2.wipe (L2.wipe σ ws) vs = L2.wipe σ vs := fun σ ws => by
    induction ws with
    | nil => intro _; rfl
    | cons w ws ih =>
      intro h
      have e : L2.wipe σ (w :: ws) = (L2.wipe σ ws).set w none := rfl
      rw [e, wipe_setL _ _ (h w List.mem_cons_self)]
      exact ih fun x hx => h x (List.mem_cons_of_mem _ hx)
  exact key σ vs fun x hx => hx
theorem gonly_name {vs : List Nat} {i : Nat} (h : i ∈ vs) : GOnly vs (gNm i) := fun u env env' e => by
  cases e
  exact wipe_setE env _ h
theorem gsonly_nil {vs : List Nat} : GsOnly vs gsNil := fun u env env' e => by
  cases u with
  | nil => cases e; rfl
  | cons _ _ => cases e
theorem gsonly_cons {vs : List Nat} {g : GM} {gs : GMs} (h1 : GOnly vs g) (h2 : GsOnly vs gs) : GsOnly vs (gsCons g gs) := fun u env env' e => by
  cases u with
  | nil => cases e
  | cons u r =>
    obtain ⟨env1, e1, e⟩ := ob e
    exact (h2 r env1 env' e).trans (h1 u env env1 e1)
theorem gonly_tup {vs : List Nat} {n : Nat} {gs : GMs} (h : GsOnly vs gs) : GOnly vs (gTp n gs) := fun u env env' e => by
  obtain ⟨us, e1, e⟩ := ob e
  split at e
  · exact h us env env' e
  · cases e
theorem impG {tg : Expr} {t t' : TG} (h : PG X tg t) (i : ∀ v σ H Q, t' v σ H Q → t v σ H Q) : PG X tg t' := fun pins s σ H v u Q I r q => h pins s σ H v u Q I r (i v σ H Q q)
theorem impGs {tg : List Expr} {t t' : TGs} (h : PGs X tg t) (i : ∀ v σ H Q, t' v σ H Q → t v σ H Q) : PGs X tg t' := fun pins s σ H v u Q I r q => h pins s σ H v u Q I r (i v σ H Q q)
theorem pgv_name (i : Nat) {vs : List Nat} {x : Str} {p : Pos} (hN : X.N.Nodup) (hi : i ∉ O) (hv : i ∈ vs) (hix : X.N[i]? = some x := by rfl) (hx : Loc X.env.scope x := by first | exact .inl rfl | exact .inr rfl)
    (hf : X.fn x = true ∨ X.env.scope.names.lookup x = some .local := by first | exact .inl rfl | exact .inr rfl | assumption) : PGV X O vs (.Name x p) (gNm i) := ⟨impG (pg_name hN hix hx hf) fun v σ H Q ⟨K, Ps, G, F, env, env', k, u, S, r, h, q⟩ => by
  cases h
  exact q _ (S.put hi r) (wipe_setL σ _ hv)⟩
theorem pgsv_nil {vs : List Nat} : PGsV X O vs [] gsNil := ⟨impGs pgs_nil fun v σ H Q ⟨K, Ps, G, F, env, env', k, u, S, r, h, q⟩ => by
  cases r with
  | nil => cases h; exact ⟨rfl, q σ S rfl⟩
  | cons _ _ => cases h⟩
theorem pgsv_cons {vs : List Nat} {tg : Expr} {ts : List Expr} {g : GM} {gs : GMs} (h1 : PGV X O vs tg g) (h2 : PGsV X O vs ts gs) (hs : (assignEach (tg :: ts) X.env).map (·.2) = assign tg X.env :: (assignEach ts X.env).map (·.2) := by rfl) : PGsV X O vs (tg :: ts) (gsCons g gs) := ⟨impGs (pgs_cons h1.pg h2.pg hs) fun v σ H Q ⟨K, Ps, G, F, env, env', k, us, S, r, h, q⟩ => by
  cases r with
  | nil => cases h
  | @cons v u ws us rv r =>
    obtain ⟨env1, e1, h⟩ := ob h
    exact ⟨v, ws, rfl, K, Ps, G, F, env, env1, k, u, S, rv, e1, fun σ' S' w' => ⟨K, Ps, G, F, env1, env', k, us, S', r, h, fun σ2 S2 w2 => q σ2 S2 (w2.trans w')⟩⟩⟩
theorem pgv_tup {vs : List Nat} {ts : List Expr} {kk n : Nat} {gs : GMs} (hc : X.calm = true) (h : PGsV X O vs ts gs) (hn : (assignEach ts X.env).length = n := by rfl) (hst : (assignEach ts X.env).findIdx? (·.1) = none := by rfl) : PGV X O vs (.Tuple ts kk pos) (gTp n gs) := ⟨impG (pg_tup hc h.pg hn hst) fun v σ H Q ⟨K, Ps, G, F, env, env', k, u, S, r, h, q⟩ => by
  obtain ⟨us, e1, h2⟩ := ob h
  cases r with
  | tup f hh r =>
    cases e1
    split at h2
    · rename_i hl
      exact ⟨_, _, rfl, SqT.of hh, by rw [r.length]; exact hl, K, Ps, G, F, env, env', k, us, S, r, h2, q⟩
    · cases h2
  | _ => cases e1⟩
def sAsgG (g : GM) (e : EM) : SM := fun env k => (e env k).bind fun x => (g x.1 env).bind fun env' => some (.nx env', x.2)
theorem psv_asgG {vs : List Nat} {tg : Expr} {g : GM} (ha : PEV X Ps O a ma) (hg : PGV X O vs tg g) (hs : swapsWithSole [tg] a pos.line X.env = pure false := by rfl) (hw : swappedStores [tg] a X.env = pure none := by rfl)
    (h1 : (assignEach [tg] X.env).map (·.2) = [assign tg X.env] := by rfl) : PSV X Ps Ob O O (.Assign [tg] a pos) (sAsgG g ma) := ⟨impS (ps_asg ha.pe hg.pg hs hw h1) fun D σ H ⟨G, F, env, k, c, k', S, hm, q⟩ => by
  obtain ⟨⟨u, k1⟩, e1, hm⟩ := ob hm
  obtain ⟨env', e2, hm⟩ := ob hm
  cases hm
  exact ⟨G, F, env, k, u, _, S, e1, fun v H1 F1 S1 m1 r1 => ⟨X.K, Ps, G, F1, env, env', _, u, S1, r1, e2, fun σ' S' _ => q _ H1 F1 S' m1.mo⟩⟩⟩
def sPar (i j : Nat) (a : AM) : SM := fun env k => (a env k).bind fun x => match x.1 with
  | [u, w] => some (.nx ((env.set i (some u)).set j (some w)), x.2)
  | _ => none
theorem psv_par (i j : Nat) {x y : Str} {px py pt : Pos} {kt k2 pt2} (hc : X.calm = true) (hN : X.N.Nodup) (hij : i ≠ j) (hi : i ∉ O) (hj : j ∉ O) (ha : PAV X Ps O [a, b] ms) (hix : X.N[i]? = some x := by rfl) (hjy : X.N[j]? = some y := by rfl)
    (hx : X.env.scope.names.lookup x = some .local := by rfl) (hy : X.env.scope.names.lookup y = some .local := by rfl) 
    (hw : swappedStores [.Tuple [.Name x px, .Name y py] kt pt] (.Tuple [a, b] k2 pt2) X.env = pure (some [x, y]) := by rfl)
    (hs : swapsWithSole [.Tuple [.Name x px, .Name y py] kt pt] (.Tuple [a, b] k2 pt2) pos.line X.env = pure false := by rfl) :
    PSV X Ps Ob O O (.Assign [.Tuple [.Name x px, .Name y py] kt pt] (.Tuple [a, b] k2 pt2) pos) (sPar i j ms) := ⟨impS (ps_par hc hN hix hjy hij hx hy ha.pa hw hs) fun D σ H ⟨G, F, env, k, c, k', S, hm, q⟩ => by
  obtain ⟨⟨us, k1⟩, e1, hm⟩ := ob hm
  refine ⟨G, F, env, k, us, k1, S, e1, fun vs H1 F1 S1 m1 r1 => ?_⟩
  match us, hm, r1 with
  | [u, w], hm, .cons r1 (.cons r2 .nil) =>
    cases hm
    exact ⟨_, _, rfl, q _ H1 F1 ((S1.put hi r1).put hj r2) m1.mo⟩⟩
end
end UM
set_option linter.all false
set_option Elab.async false
set_option maxRecDepth 100000
set_option maxHeartbeats 1000000
namespace UM
open PySem L2
structure ItU (G : Gx) (J : It) (us : List U) (F : Addr → Prop) (H : Hp) : Prop where
  go : ∀ F2 H2, Mo F H F2 H2 → ∀ i, i < us.length → J.go i H2
  stop : ∀ F2 H2, Mo F H F2 H2 → J.stop us.length H2
  yld : ∀ F2 H2 i x H3 k, Base G F2 H2 k → Mo F H F2 H2 → i < us.length → J.yld i H2 x H3 → ∃ F3 u, Base G F3 H3 k ∧ Stp G F2 H2 F3 H3 ∧ us[i]? = some u ∧ Rep G.t G.sc F3 H3 x u
theorem ItU.mono {G : Gx} {J : It} {us : List U} {F F' : Addr → Prop} {H H' : Hp} (I : ItU G J us F H) (m : Mo F H F' H') : ItU G J us F' H' :=
  ⟨fun F2 H2 m2 => I.go F2 H2 (m.trans m2), fun F2 H2 m2 => I.stop F2 H2 (m.trans m2), fun F2 H2 i x H3 k B m2 => I.yld F2 H2 i x H3 k B (m.trans m2)⟩
def tMI (K : PySem.W.Frag) (Ps : Tb) (O : List Nat) (m : AM) : TI := fun σ H R => ∃ G F env k us k', SR K Ps G O F H σ env k ∧ m env k = some (us, k') ∧ ∀ J H' F', SR K Ps G O F' H' σ env k' → Stp G F H F' H' → ItU G J us F' H' → R J H'
structure PIV (X : Cx) (Ps : Tb) (O : List Nat) (tg iter : Expr) (m : AM) : Prop where
  pi : PI X tg iter (tMI X.K Ps O m)
def itemsU : U → Option (List U)
  | .tup us => some us
  | .lst us => some us
  | .str z => some (z.cps.toList.map fun c => .str ⟨#[c]⟩)
  | _ => none
def aItems (e : EM) : AM := fun env k => (e env k).bind fun x => (itemsU x.1).bind fun us => some (us, x.2)
def aRng1 (e : EM) : AM := fun env k => (e env k).bind fun x => match x.1 with
  | .int n => if -(2 ^ 62) ≤ n ∧ n < 2 ^ 62 then some ((List.range n.toNat).map fun (i : Nat) => .int i, x.2) else none
  | _ => none
section
variable {X : Cx} {Ps : Tb} {Ob O O' O1 O2 : List Nat} {a b c : Expr} {es : List Expr} {ma mb mc : EM} {ms : AM} {pos : Pos} {st : Stmt} {sts : List Stmt} {m1 m2 : SM} {tg : Expr} {iter : Expr}
theorem orI {t t' : TI} (h : PI X tg iter t) (h' : PI X tg iter t') : PI X tg iter (fun σ H Q => t σ H Q ∨ t' σ H Q) := fun pins s σ H Q I q => q.elim (h pins s σ H Q I) (h' pins s σ H Q I)
theorem impI {t t' : TI} (h : PI X tg iter t) (i : ∀ σ H Q, t' σ H Q → t σ H Q) : PI X tg iter t' := fun pins s σ H Q I q => h pins s σ H Q I (i σ H Q q)
theorem itu_list {G : Gx} {F : Addr → Prop} {H : Hp} {K : PySem.W.Frag} {ad : Addr} {vs : List V} {us : List U} (f : F ad) (h : H ad = some (.lst vs)) (r : Reps G.t G.sc F H vs us) : ItU G (Itl K ad) us F H := by
  have at' : ∀ F2 H2, Mo F H F2 H2 → H2 ad = some (.lst vs) := fun F2 H2 m => m.h ad (.lst vs) f h
  refine ⟨fun F2 H2 m i hi => ?_, fun F2 H2 m => ⟨vs, SqL.of (at' F2 H2 m), Nat.le_of_eq r.length⟩, fun F2 H2 i x H3 k B m hi y => ?_⟩
  · have hv : i < vs.length := by rw [r.length]; exact hi
    exact ⟨vs, vs[i], SqL.of (at' F2 H2 m), List.getElem?_eq_getElem hv⟩
  · obtain ⟨rfl, e⟩ := y
    have ex := e vs (SqL.of (at' F2 H3 m))
    obtain ⟨u, e1, e2⟩ := r.getV ex
    exact ⟨F2, u, B, .refl, e1, e2.mono m⟩
theorem itu_tup {G : Gx} {F : Addr → Prop} {H : Hp} {K : PySem.W.Frag} {ad : Addr} {vs : List V} {us : List U} (f : F ad) (h : H ad = some (.tup vs)) (r : Reps G.t G.sc F H vs us) : ItU G (Itt K ad) us F H := by
  have at' : ∀ F2 H2, Mo F H F2 H2 → H2 ad = some (.tup vs) := fun F2 H2 m => m.h ad (.tup vs) f h
  refine ⟨fun F2 H2 m i hi => ?_, fun F2 H2 m => ⟨vs, SqT.of (at' F2 H2 m), Nat.le_of_eq r.length⟩, fun F2 H2 i x H3 k B m hi y => ?_⟩
  · have hv : i < vs.length := by rw [r.length]; exact hi
    exact ⟨vs, vs[i], SqT.of (at' F2 H2 m), List.getElem?_eq_getElem hv⟩
  · obtain ⟨rfl, e⟩ := y
    have ex := e vs (SqT.of (at' F2 H3 m))
    obtain ⟨u, e1, e2⟩ := r.getV ex
    exact ⟨F2, u, B, .refl, e1, e2.mono m⟩
theorem itu_str {G : Gx} {F : Addr → Prop} {H : Hp} (z : Str) : ItU G (Its z) (z.cps.toList.map fun c => .str ⟨#[c]⟩) F H := by
  refine ⟨fun F2 H2 m i hi => ?_, fun F2 H2 m => ?_, fun F2 H2 i x H3 k B m hi y => ?_⟩
  · simpa [Its] using hi
  · simp [Its]
  · obtain ⟨rfl, c, e, rfl⟩ := y
    refine ⟨F2, .str ⟨#[c]⟩, B, .refl, ?_, .str _⟩
    rw [List.getElem?_map, Array.getElem?_toList, e]; rfl
theorem itu_range {G : Gx} {F : Addr → Prop} {H : Hp} (lo : Int) (n : Nat) : ItU G (Itr lo n) ((List.range n).map fun (i : Nat) => .int (lo + i)) F H := by
  refine ⟨fun F2 H2 m i hi => ?_, fun F2 H2 m => ?_, fun F2 H2 i x H3 k B m hi y => ?_⟩
  · simpa [Itr] using hi
  · simp [Itr]
  · obtain ⟨rfl, rfl⟩ := y
    have hi' : i < n := by simpa using hi
    refine ⟨F2, .int (lo + i), B, .refl, ?_, .int _⟩
    rw [List.getElem?_map, List.getElem?_range hi']; rfl
theorem piv_val (ha : PEV X Ps O a ma) : PIV X Ps O tg a (aItems ma) := by
  refine ⟨impI (orI (pi_list ha.pe) (orI (pi_tup ha.pe) (pi_str ha.pe))) fun σ H R hq => ?_⟩
  obtain ⟨G, F, env, k, us, k', S, hm, q⟩ := hq
  obtain ⟨⟨x, k1⟩, h1, hm⟩ := ob hm
  obtain ⟨us', e1, hm⟩ := ob hm
  cases hm
  cases x with
  | lst us0 =>
    cases e1
    refine .inl ⟨G, F, env, k, _, _, S, h1, fun v H1 F1 S1 m1 r1 => ?_⟩
    cases r1 with
    | lst f h r => exact ⟨_, rfl, ⟨_, SqL.of h⟩, q _ H1 F1 S1 m1 (itu_list f h r)⟩
  | tup us0 =>
    cases e1
    refine .inr (.inl ⟨G, F, env, k, _, _, S, h1, fun v H1 F1 S1 m1 r1 => ?_⟩)
    cases r1 with
    | tup f h r => exact ⟨_, rfl, ⟨_, SqT.of h⟩, q _ H1 F1 S1 m1 (itu_tup f h r)⟩
  | str z =>
    cases e1
    refine .inr (.inr ⟨G, F, env, k, _, _, S, h1, fun v H1 F1 S1 m1 r1 => ?_⟩)
    cases r1
    exact ⟨z, rfl, q _ H1 F1 S1 m1 (itu_str z)⟩
  | _ => cases e1
theorem piv_rng1 {p : Pos} (hg : Gl X "range") (hm : X.mg "range" = none) (ha : PEV X Ps O a ma) (hs : starEach [a] X.env = (false, eval a X.env) :: starEach [] X.env := by rfl) : PIV X Ps O tg (.Call (.Name "range" p) [a] [] pos) (aRng1 ma) := by
  refine ⟨impI (pi_range1 hg hm (pav_cons ha pav_nil hs).pa hs) fun σ H R hq => ?_⟩
  obtain ⟨G, F, env, k, us, k', S, hm, q⟩ := hq
  obtain ⟨⟨x, k1⟩, h1, hm⟩ := ob hm
  cases x with
  | int n =>
    dsimp only at hm
    split at hm
    · rename_i hb
      cases hm
      refine ⟨G, F, env, k, [.int n], k', S, by simp [aCons, aNil, h1], fun vs H1 F1 S1 m1 r1 => ?_⟩
      cases r1 with
      | cons r r' =>
        cases r; cases r'
        refine ⟨n, rfl, hb.1, hb.2, q _ H1 F1 S1 m1 ?_⟩
        have z := itu_range (G := G) (F := F1) (H := H1) 0 n.toNat
        simpa using z
    · cases hm
  | _ => cases hm
def forL (g : GM) (body : SM) : List U → En → Nat → Option (Ctl × Nat)
  | [], env, k => some (.nx env, k)
  | u :: us, env, k => (g u env).bind fun env1 => (body env1 k).bind fun c => match c.1 with
    | .nx e => forL g body us e c.2
    | .ct e => forL g body us e c.2
    | .bk e => some (.nx e, c.2)
    | .rt u => some (.rt u, c.2)
def sFor (src : AM) (g : GM) (body : SM) : SM := fun env k => (src env k).bind fun x => forL g body x.1 env x.2
theorem psv_for {vs : List Nat} {g : GM} {body : List Stmt} {m : SM} (hp : PassesOwn (model X.prog X.w) X.A X.env X.xe) (hc : X.calm = true) (hi : PIV X Ps O tg iter ms) (hg : PGV X O vs tg g) (hb : PSsV X Ps O O O body m) (hs : ∀ x, foldedSetIterable iter X.env x = pure x := by intro _; rfl) :
    PSV X Ps Ob O O (.For tg iter body [] pos) (sFor ms g m) := by
  refine ⟨impS (ps_for hp hc hi.pi hg.pg hb.ps hs) fun D σ H hq => ?_⟩
  obtain ⟨G, F, env, k, c, k', S, hm, q⟩ := hq
  obtain ⟨⟨us, k1⟩, e1, hm⟩ := ob hm
  refine ⟨G, F, env, k, us, k1, S, e1, fun J H1 F1 S1 m1 it => ?_⟩
  refine ⟨fun i n σ2 H2 => ∃ F2 env2 k2, i + n = us.length ∧ SR X.K Ps G O F2 H2 σ2 env2 k2 ∧ Mo F1 H1 F2 H2 ∧ forL g m (us.drop i) env2 k2 = some (c, k'), ⟨us.length, F1, env, k1, by omega, S1, .refl, by simpa using hm⟩, ?_⟩
  rintro i n σ2 H2 ⟨F2, env2, k2, hin, S2, mo2, hl⟩
  cases n with
  | zero =>
    have hi : i = us.length := by omega
    rw [List.drop_of_length_le (by omega)] at hl
    cases hl
    exact .inl ⟨by rw [hi]; exact it.stop F2 H2 mo2, q _ H2 F2 S2 (m1.mo.trans mo2)⟩
  | succ n =>
    have hi : i < us.length := by omega
    refine .inr ⟨it.go F2 H2 mo2 i hi, fun σ' H' => ∃ F' env' k2', SR X.K Ps G O F' H' σ' env' k2' ∧ Mo F1 H1 F' H' ∧ forL g m (us.drop (i + 1)) env' k2' = some (c, k'), ?_, ?_⟩
    · rintro σ' H' ⟨F', env', k2', S', mo', hl'⟩
      exact ⟨n, Nat.lt_succ_self _, F', env', k2', by omega, S', mo', hl'⟩
    · intro x H3 hy
      obtain ⟨F3, u, B3, st3, eu, r3⟩ := it.yld F2 H2 i x H3 k2 S2.b mo2 hi hy
      have hd : us.drop i = u :: us.drop (i + 1) := by
        rw [List.drop_eq_getElem_cons hi]
        congr 1
        rw [List.getElem?_eq_getElem hi] at eu
        exact Option.some.inj eu
      rw [hd] at hl
      obtain ⟨env3, e3, hl⟩ := ob hl
      obtain ⟨⟨c4, k4⟩, e4, hl⟩ := ob hl
      refine ⟨X.K, Ps, G, F3, env2, env3, k2, u, S2.step st3 B3, r3, e3, fun σ3 S3 _ => ?_⟩
      have mo3 : Mo F1 H1 F3 H3 := mo2.trans st3.mo
      refine ⟨G, F3, env3, k2, c4, k4, S3, e4, ?_⟩
      cases c4 with
      | nx e => exact fun σ' H' F' S' mo' => ⟨F', e, k4, S', mo3.trans mo', hl⟩
      | ct e => exact fun σ' H' F' S' mo' => ⟨F', e, k4, S', mo3.trans mo', hl⟩
      | bk e => cases hl; exact fun σ' H' F' S' mo' => q σ' H' F' S' (m1.mo.trans (mo3.trans mo'))
      | rt u' => cases hl; exact fun v H' F' B' mo' r' => q v H' F' B' (m1.mo.trans (mo3.trans mo')) r'
end
end UM
set_option linter.all false
set_option Elab.async false
set_option maxRecDepth 100000
set_option maxHeartbeats 1000000
namespace UM
open PySem L2
structure PTsV (X : Cx) (Ps : Tb) (O : List Nat) (ifs : List Expr) (m : BM) : Prop where
  pt : PTs X ifs (tMB X.K Ps O m)
def bYes : BM := fun _ k => some (true, k)
def lcL (g : GM) (t : BM) (e : EM) (env : En) : List U → Nat → Option (List U × Nat)
  | [], k => some ([], k)
  | u :: us, k => (g u env).bind fun env1 => (t env1 k).bind fun b => if b.1 = true then (e env1 b.2).bind fun y => (lcL g t e env us y.2).bind fun r => some (y.1 :: r.1, r.2) else lcL g t e env us b.2
def eLc (src : AM) (vs : List Nat) (g : GM) (t : BM) (e : EM) : EM := fun env k => (src env k).bind fun x => (lcL g t e (wipeE env vs) x.1 x.2).bind fun r => if r.1.length ≤ 1000 then some (.lst r.1, r.2) else none
section
variable {X : Cx} {Ps : Tb} {Ob O O' O1 O2 : List Nat} {a b c : Expr} {es : List Expr} {ma mb mc : EM} {ms : AM} {pos : Pos} {st : Stmt} {sts : List Stmt} {m1 m2 : SM} {tg : Expr} {iter elt : Expr} {ifs : List Expr} {scope : Scope} {own : List (Str × Nat)} {g : GM} {mt : BM} {me : EM} {vs : List Nat}
theorem impTs {ifs : List Expr} {t t' : TT} (h : PTs X ifs t) (i : ∀ σ H Q, t' σ H Q → t σ H Q) : PTs X ifs t' := fun pins s σ H Q I q => h pins s σ H Q I (i σ H Q q)
theorem ptsv_nil : PTsV X Ps O [] bYes := ⟨impTs pts_nil fun σ H Q ⟨G, F, env, k, b, k', S, hm, q⟩ => by
  cases hm
  exact q H F S .refl⟩
theorem ptsv_one {m : BM} (h : PBV X Ps O c m) : PTsV X Ps O [c] m := ⟨pts_one h.pt⟩
theorem SR.own_ne {K : PySem.W.Frag} {G : Gx} {F : Addr → Prop} {H : Hp} {σ : St} {env : En} {k : Nat} (S : SR K Ps G O F H σ env k) {D : Addr} (hD : H D = none) (j : Nat) (hj : j ∈ O) (u : U) (e : env[j]? = some (some u)) : σ[j]? ≠ some (some (.ref D)) := fun z => by
  obtain ⟨a, e1, o⟩ := S.ow j hj u e
  rw [e1] at z
  cases z
  have c := o.c
  cases u with
  | lst us => obtain ⟨vs, h, _⟩ := c; rw [hD] at h; cases h
  | dct us => obtain ⟨vs, h, _⟩ := c; rw [hD] at h; cases h
  | _ => exact c
theorem lc_imp {K : PySem.W.Frag} {σ : St} {H : Hp} {Q : VK} (go : GOnly vs g) (hq : ∃ G F env k us k', SR K Ps G O F H σ env k ∧ ms env k = some (us, k') ∧ ∃ tot kf, lcL g mt me (wipeE env vs) us k' = some (tot, kf) ∧ tot.length ≤ 1000 ∧
      ∀ D H' F' vsV, Base G F' H' kf → Stp G F H F' H' → ¬ F' D → D ≠ G.t → G.H0 D = none → (∀ j, j ∈ O → ∀ u, env[j]? = some (some u) → σ[j]? ≠ some (some (.ref D))) → (∀ z w, ¬ F z → z ≠ G.t → G.H0 z = none → H z = some w → (∀ ps, w ≠ .tbl ps) → z ≠ D) → H' D = some (.lst vsV) → Reps G.t G.sc F' H' vsV tot → Q (.ref D) H') :
    tLc (tMI K Ps O ms) (tMG O vs g) (tMB K Ps O mt) (tM K Ps O me) vs σ H Q := by
  obtain ⟨G, F, env, k, us, k', S, hm, tot, kf, hl, hz, q⟩ := hq
  refine ⟨G, F, env, k, us, k', S, hm, fun J H1 F1 S1 m1 it D hD => ?_⟩
  have Sw := S1.wipe vs
  obtain ⟨B0, _, nF0, nt, n0⟩ := S1.b.allocO (p := D) (o := .lst []) hD
  have st0 := stp_allocO (p := D) (o := .lst []) S1.b hD
  refine ⟨fun i n H2 => ∃ F2 k2 accV accU rest, i + n = us.length ∧ Base G F2 H2 k2 ∧ Stp G F1 H1 F2 H2 ∧ H2 D = some (.lst accV) ∧ ¬ F2 D ∧ Reps G.t G.sc F2 H2 accV accU ∧ lcL g mt me (wipeE env vs) (us.drop i) k2 = some (rest, kf) ∧ accU ++ rest = tot,
    ⟨us.length, F1, k', [], [], tot, by omega, B0, st0, upd_same, nF0, .nil, by simpa using hl, rfl⟩, ?_⟩
  rintro i n H2 ⟨F2, k2, accV, accU, rest, hin, B2, st2, hD2, nF2, r2, hl2, htot⟩
  cases n with
  | zero =>
    have hi : i = us.length := by omega
    rw [List.drop_of_length_le (by omega)] at hl2
    cases hl2
    rw [List.append_nil] at htot
    subst htot
    have hH : ∀ j, j ∈ O → ∀ u, env[j]? = some (some u) → σ[j]? ≠ some (some (.ref D)) := fun j hj u e z => S1.own_ne hD j hj u e z
    exact .inl ⟨by rw [hi]; exact it.stop F2 H2 st2.mo, q D H2 F2 accV B2 (m1.trans st2) nF2 nt n0 hH (fun z w h1 h2 h3 h4 h5 => ne_of_none (m1.ow z w h1 h2 h3 h4 h5).2 hD) hD2 r2⟩
  | succ n =>
    have hi : i < us.length := by omega
    refine .inr ⟨it.go F2 H2 st2.mo i hi, fun H' => ∃ F' k3 accV accU rest, Base G F' H' k3 ∧ Stp G F1 H1 F' H' ∧ H' D = some (.lst accV) ∧ ¬ F' D ∧ Reps G.t G.sc F' H' accV accU ∧ lcL g mt me (wipeE env vs) (us.drop (i + 1)) k3 = some (rest, kf) ∧ accU ++ rest = tot, ?_, ?_⟩
    · rintro H' ⟨F', k3, aV, aU, rs, b1, b2, b3, b4, b5, b6, b7⟩
      exact ⟨n, Nat.lt_succ_self _, F', k3, aV, aU, rs, by omega, b1, b2, b3, b4, b5, b6, b7⟩
    · intro x H3 hy
      obtain ⟨F3, u, B3, st3, eu, r3⟩ := it.yld F2 H2 i x H3 k2 B2 st2.mo hi hy
      have hd : us.drop i = u :: us.drop (i + 1) := by
        rw [List.drop_eq_getElem_cons hi]
        congr 1
        rw [List.getElem?_eq_getElem hi] at eu
        exact Option.some.inj eu
      rw [hd] at hl2
      obtain ⟨env3, e3, hl2⟩ := ob hl2
      obtain ⟨⟨bt, kt⟩, et, hl2⟩ := ob hl2
      obtain ⟨nF3, hD3⟩ := st3.ow D _ nF2 nt n0 hD2 (by intro ps z; cases z)
      refine ⟨K, Ps, G, F3, wipeE env vs, env3, k2, u, Sw.step (st2.trans st3) B3, r3, e3, fun σ3 S3 hw3 => ⟨by rw [hw3]; exact wipeL_idem σ vs, ?_⟩⟩
      refine ⟨G, F3, env3, k2, bt, kt, S3, et, fun H4 F4 S4 m4 => ?_⟩
      obtain ⟨nF4, hD4⟩ := m4.ow D _ nF3 nt n0 hD3 (by intro ps z; cases z)
      dsimp only at hl2
      cases bt with
      | false =>
        simp only [Bool.false_eq_true, if_false] at hl2 ⊢
        exact ⟨F4, kt, accV, accU, rest, S4.b, (st2.trans st3).trans m4, hD4, nF4, (r2.mono st3.mo).mono m4.mo, hl2, htot⟩
      | true =>
        simp only [if_true] at hl2 ⊢
        obtain ⟨⟨y, ky⟩, ey, hl2⟩ := ob hl2
        obtain ⟨⟨rs, kr⟩, er, hl2⟩ := ob hl2
        cases hl2
        refine ⟨G, F4, env3, kt, y, ky, S4, ey, fun v H5 F5 S5 m5 r5 => ?_⟩
        obtain ⟨nF5, hD5⟩ := m5.ow D _ nF4 nt n0 hD4 (by intro ps z; cases z)
        have hlen : accV.length < sizeLine := by
          have := r2.length
          have h3 : accU.length + (rs.length + 1) = tot.length := by rw [← htot]; simp
          exact small1000 (by omega)
        refine ⟨accV, hD5, hlen, ?_⟩
        obtain ⟨B6, mo6⟩ := S5.b.write (o := .lst (accV ++ [v])) hD5 (by intro ps z; cases z) nF5 nt n0
        have st5 : Stp G F1 H1 F5 H5 := ((st2.trans st3).trans m4).trans m5
        refine ⟨F5, ky, accV ++ [v], accU ++ [y], rs, B6, ⟨st5.mo.trans mo6, fun z w h1 h2 h3 h4 h5 => ?_⟩, upd_same, nF5, ?_, er, by rw [List.append_assoc]; exact htot⟩
        · obtain ⟨g1, g2⟩ := st5.ow z w h1 h2 h3 h4 h5
          have ne : z ≠ D := ne_of_none h4 hD
          exact ⟨g1, by rw [upd_ne ne]; exact g2⟩
        · exact ((((r2.mono st3.mo).mono m4.mo).mono m5.mo).append (.cons r5 .nil)).mono mo6
theorem pev_lc (hc : X.calm = true) (hN : X.N.Nodup) (hi : PIV X Ps O tg iter ms) (ok : BlkOk X.N X.env.scope scope own) (hv : vs = own.map (·.2)) (go : GOnly vs g)
    (hg : ∀ (s : Shared) (H : Hp) (C : Addr) (cl : List (Str × Addr)) (fp : List Addr), PGV (X.blk s H scope (compEnvC scope cl C X.env) fp) O vs tg g) (ht : ∀ (s : Shared) (H : Hp) (C : Addr) (cl : List (Str × Addr)) (fp : List Addr), PTsV (X.blk s H scope (compEnvC scope cl C X.env) fp) Ps O ifs mt)
    (he : ∀ (s : Shared) (H : Hp) (C : Addr) (cl : List (Str × Addr)) (fp : List Addr), PEV (X.blk s H scope (compEnvC scope cl C X.env) fp) Ps O elt me) (hs : ∀ x, foldedSetIterable iter X.env x = pure x := by intro _; rfl) :
    PEV X Ps O (.ListComp elt [⟨tg, iter, ifs, 0⟩] scope pos) (eLc ms vs g mt me) := by
  subst hv
  refine ⟨impE (pe_lc (g := tMG O (own.map (·.2)) g) (tt := tMB X.K Ps O mt) (te := tM X.K Ps O me) hc hN hi.pi ok (fun s H C cl fp => (hg s H C cl fp).pg) (fun s H C cl fp => (ht s H C cl fp).pt) (fun s H C cl fp => (he s H C cl fp).pe) hs) fun σ H Q hq => ?_⟩
  obtain ⟨G, F, env, k, u, k', S, hm, q⟩ := hq
  obtain ⟨⟨us, k1⟩, e1, hm⟩ := ob hm
  obtain ⟨⟨tot, kf⟩, e2, hm⟩ := ob hm
  dsimp only at hm
  split at hm
  · rename_i hz
    cases hm
    refine lc_imp go ⟨G, F, env, k, us, k1, S, e1, tot, _, e2, hz, fun D H' F' vsV B st nF nt n0 _ hfr hD r => ?_⟩
    obtain ⟨B2, mo2⟩ := B.share hD (by intro ps z; cases z) nt n0
    have st2 : Stp G F H (fun a => F' a ∨ a = D) H' := ⟨st.mo.trans mo2, fun z w h1 h2 h3 h4 h5 => by
      obtain ⟨g1, g2⟩ := st.ow z w h1 h2 h3 h4 h5
      refine ⟨fun q => ?_, g2⟩
      rcases q with q | q
      · exact g1 q
      · exact hfr z w h1 h2 h3 h4 h5 q⟩
    exact q _ H' _ (S.step st2 B2) st2 (.lst (.inr rfl) hD (r.mono mo2))
  · cases hm
end
end UM
set_option linter.all false
set_option Elab.async false
set_option maxRecDepth 100000
set_option maxHeartbeats 1000000
namespace UM
open PySem L2
def genL (g : GM) (t : BM) (e : EM) (env : En) (k : Nat) : List U → Option (List U)
  | [] => some []
  | u :: us => (g u env).bind fun env1 => (t env1 k).bind fun b => if b.2 = k then (if b.1 = true then (e env1 k).bind fun y => if y.2 = k then (genL g t e env k us).bind fun r => some (y.1 :: r) else none else genL g t e env k us) else none
def eTupG (src : AM) (vs : List Nat) (g : GM) (t : BM) (e : EM) : EM := fun env k => (src env k).bind fun x => (genL g t e (wipeE env vs) x.2 x.1).bind fun ys => if ys.length ≤ 1000 then some (.tup ys, x.2) else none
section
variable {X : Cx} {Ps : Tb} {Ob O O' O1 O2 : List Nat} {a b c : Expr} {es : List Expr} {ma mb mc : EM} {ms : AM} {pos cpos : Pos} {st : Stmt} {sts : List Stmt} {m1 m2 : SM} {tg : Expr} {iter elt : Expr} {ifs : List Expr} {scope : Scope} {own : List (Str × Nat)} {g : GM} {mt : BM} {me : EM} {vs : List Nat}
theorem psv_setLc (i : Nat) {y : Str} {py spos : Pos} (hc : X.calm = true) (hN : X.N.Nodup) (hO : ∀ j, j ∈ O' ↔ (j ∈ O ∧ j ≠ i)) (hi : PIV X Ps O tg iter ms) (ok : BlkOk X.N X.env.scope scope own) (hv : vs = own.map (·.2)) (go : GOnly vs g)
    (hg : ∀ (s : Shared) (H : Hp) (C : Addr) (cl : List (Str × Addr)) (fp : List Addr), PGV (X.blk s H scope (compEnvC scope cl C X.env) fp) O vs tg g) (ht : ∀ (s : Shared) (H : Hp) (C : Addr) (cl : List (Str × Addr)) (fp : List Addr), PTsV (X.blk s H scope (compEnvC scope cl C X.env) fp) Ps O ifs mt)
    (he : ∀ (s : Shared) (H : Hp) (C : Addr) (cl : List (Str × Addr)) (fp : List Addr), PEV (X.blk s H scope (compEnvC scope cl C X.env) fp) Ps O elt me)
    (hsw : swapsWith (.ListComp elt [⟨tg, iter, ifs, 0⟩] scope pos) (some (.Name y py)) spos.line X.env = pure true) (hy : X.N[i]? = some y := by rfl) (hyl : X.env.scope.names.lookup y = some .local := by rfl) (hs : ∀ x, foldedSetIterable iter X.env x = pure x := by intro _; rfl) :
    PSV X Ps Ob O O' (.Assign [.Name y py] (.ListComp elt [⟨tg, iter, ifs, 0⟩] scope pos) spos) (sAsg i (eLc ms vs g mt me)) := by
  subst hv
  refine ⟨impS (ps_setLc (g := tMG O (own.map (·.2)) g) (tt := tMB X.K Ps O mt) (te := tM X.K Ps O me) hc hN hy hyl hsw hi.pi ok (fun s H C cl fp => (hg s H C cl fp).pg) (fun s H C cl fp => (ht s H C cl fp).pt) (fun s H C cl fp => (he s H C cl fp).pe) hs) fun D σ H hq => ?_⟩
  obtain ⟨G, F, env, k, u, k', S, hm, q⟩ := hq
  obtain ⟨⟨u1, k0⟩, e0, hm⟩ := ob hm
  cases hm
  obtain ⟨⟨us, k1⟩, e1, e0⟩ := ob e0
  obtain ⟨⟨tot, kf⟩, e2, e0⟩ := ob e0
  dsimp only at e0
  split at e0
  · rename_i hz
    cases e0
    refine lc_imp go ⟨G, F, env, k, us, k1, S, e1, tot, _, e2, hz, fun D H' F' vsV B st nF nt n0 _ hfr hD r => ?_⟩
    obtain ⟨B2, mo2⟩ := B.share hD (by intro ps z; cases z) nt n0
    have st2 : Stp G F H (fun a => F' a ∨ a = D) H' := ⟨st.mo.trans mo2, fun z w h1 h2 h3 h4 h5 => by
      obtain ⟨g1, g2⟩ := st.ow z w h1 h2 h3 h4 h5
      refine ⟨fun q => ?_, g2⟩
      rcases q with q | q
      · exact g1 q
      · exact hfr z w h1 h2 h3 h4 h5 q⟩
    exact q _ H' _ ((S.step st2 B2).asg hO (.lst (.inr rfl) hD (r.mono mo2))) st2.mo
  · cases e0
theorem gen_imp {K : PySem.W.Frag} {σ : St} {H : Hp} {P : Addr} {Kon : Nat → Nat → (Nat → List V → Hp → Prop) → Prop} (hP : P ∈ Ps.ps) (go : GOnly vs g)
    (hq : ∃ G F env k us k' tot, SR K Ps G O F H σ env k ∧ ms env k = some (us, k') ∧ genL g mt me (wipeE env vs) k' us = some tot ∧
      ∀ W : Nat → List V → Hp → Prop, (∀ i xs H', W i xs H' → ∃ F' don rest, Base G F' H' k' ∧ Stp G F H F' H' ∧ Reps G.t G.sc F' H' xs don ∧ don ++ rest = tot) → Kon tot.length us.length W) :
    tGen P (tMI K Ps O ms) (tMG O vs g) (tMB K Ps O mt) (tM K Ps O me) vs σ H Kon := by
  obtain ⟨G, F, env, k, us, k', tot, S, hm, hl, q⟩ := hq
  refine ⟨G, F, env, k, us, k', S, hm, fun J H1 F1 S1 m1 it => ?_⟩
  obtain ⟨ps, hPs, htr⟩ := S1.b.tb P (by rw [S1.hP]; exact hP)
  refine ⟨ps, hPs, htr, fun ps' htr' => ?_⟩
  have hP1 : P ∈ G.Ps.ps := by rw [S1.hP]; exact hP
  obtain ⟨B0, mo0⟩ := S1.b.table (ps' := ps') hPs hP1 htr'
  have st0 := stp_table (ps' := ps') S1.b hPs hP1 htr'
  have Sw := S1.wipe vs
  refine ⟨tot.length, us.length, fun i xs H2 => ∃ F2 don rest, i ≤ us.length ∧ Base G F2 H2 k' ∧ Stp G F1 H1 F2 H2 ∧ Reps G.t G.sc F2 H2 xs don ∧ genL g mt me (wipeE env vs) k' (us.drop i) = some rest ∧ don ++ rest = tot,
    ⟨?_, ?_, ?_⟩, ⟨F1, [], tot, Nat.zero_le _, B0, st0, .nil, by simpa using hl, rfl⟩, q _ ?_⟩
  · rintro i xs H2 ⟨F2, don, rest, _, B2, st2, r2, hl2, htot⟩
    rw [r2.length, ← htot]; simp
  · rintro i xs H2 ⟨F2, don, rest, _, B2, st2, r2, hl2, htot⟩ hi
    rw [hi, List.drop_of_length_le (Nat.le_refl _)] at hl2
    cases hl2
    rw [List.append_nil] at htot
    subst htot
    exact ⟨by rw [hi]; exact it.stop F2 H2 st2.mo, r2.length⟩
  · rintro i xs H2 ⟨F2, don, rest, _, B2, st2, r2, hl2, htot⟩ hi
    refine ⟨it.go F2 H2 st2.mo i hi, fun x H3 hy => ?_⟩
    obtain ⟨F3, u, B3, st3, eu, r3⟩ := it.yld F2 H2 i x H3 k' B2 st2.mo hi hy
    have hd : us.drop i = u :: us.drop (i + 1) := by
      rw [List.drop_eq_getElem_cons hi]
      congr 1
      rw [List.getElem?_eq_getElem hi] at eu
      exact Option.some.inj eu
    rw [hd] at hl2
    obtain ⟨env3, e3, hl2⟩ := ob hl2
    obtain ⟨⟨bt, kt⟩, et, hl2⟩ := ob hl2
    dsimp only at hl2
    split at hl2
    · rename_i hk
      subst hk
      refine ⟨K, Ps, G, F3, wipeE env vs, env3, _, u, Sw.step (st2.trans st3) B3, r3, e3, fun σ3 S3 hw3 => ⟨by rw [hw3]; exact wipeL_idem σ vs, ?_⟩⟩
      refine ⟨G, F3, env3, _, bt, _, S3, et, fun H4 F4 S4 m4 => ?_⟩
      cases bt with
      | false =>
        simp only [Bool.false_eq_true, if_false] at hl2 ⊢
        exact ⟨F4, don, rest, hi, S4.b, (st2.trans st3).trans m4, (r2.mono st3.mo).mono m4.mo, hl2, htot⟩
      | true =>
        simp only [if_true] at hl2 ⊢
        obtain ⟨⟨y, ky⟩, ey, hl2⟩ := ob hl2
        dsimp only at hl2
        split at hl2
        · rename_i hk2
          subst hk2
          obtain ⟨rs, er, hl2⟩ := ob hl2
          cases hl2
          refine ⟨G, F4, env3, _, y, _, S4, ey, fun v H5 F5 S5 m5 r5 => ?_⟩
          refine ⟨?_, F5, don ++ [y], rs, hi, S5.b, ((st2.trans st3).trans m4).trans m5, (((r2.mono st3.mo).mono m4.mo).mono m5.mo).append (.cons r5 .nil), er, by rw [List.append_assoc]; exact htot⟩
          rw [r2.length, ← htot]; simp
        · cases hl2
    · cases hl2
  · rintro i xs H2 ⟨F2, don, rest, _, B2, st2, r2, hl2, htot⟩
    exact ⟨F2, don, rest, B2, m1.trans st2, r2, htot⟩
section
variable {k : Nat} {c P : Addr} {p : Pos}
theorem pev_tupG (hr : Room (k + 1) X.A) (G : GenCx X c P) (hP : P ∈ Ps.ps) (hg0 : Gl X "tuple") (hm : X.mg "tuple" = none) (hc : X.calm = true) (hN : X.N.Nodup) (hi : PIV X Ps O tg iter ms) (ok : BlkOk X.N X.env.scope scope own) (hv : vs = own.map (·.2)) (go : GOnly vs g)
    (hnc : ∀ y ∈ scope.names, y.2 ≠ .cell) (h0 : scope.names.lookup (".0" : Str) = some NameKind.local) (hco : scope.isCoroutine = false)
    (hg : ∀ (A' : Around) (s : Shared) (H : Hp) (cl : List (Str × Addr)) (C : Addr) (code : Value) (fp : List Addr), PGV (X.gblk A' s H (genEnv scope cl C code builtinsNs X.env) fp) O vs tg g)
    (ht : ∀ (A' : Around) (s : Shared) (H : Hp) (cl : List (Str × Addr)) (C : Addr) (code : Value) (fp : List Addr), Room k A' → PTsV (X.gblk A' s H (genEnv scope cl C code builtinsNs X.env) fp) Ps O ifs mt)
    (he : ∀ (A' : Around) (s : Shared) (H : Hp) (cl : List (Str × Addr)) (C : Addr) (code : Value) (fp : List Addr), Room k A' → PEV (X.gblk A' s H (genEnv scope cl C code builtinsNs X.env) fp) Ps O elt me)
    (hs : ∀ x, genFold iter X.env x = pure x := by intro _; rfl) :
    PEV X Ps O (.Call (.Name "tuple" p) [.GeneratorExp elt [⟨tg, iter, ifs, 0⟩] scope pos] [] cpos) (eTupG ms vs g mt me) := by
  subst hv
  refine ⟨impE (pe_tupG (gt := tMG O (own.map (·.2)) g) (tt := tMB X.K Ps O mt) (te := tM X.K Ps O me) hr G hg0 hm hc hN hi.pi ok hnc h0 hco (fun A' s H cl C code fp => (hg A' s H cl C code fp).pg) (fun A' s H cl C code fp r => (ht A' s H cl C code fp r).pt) (fun A' s H cl C code fp r => (he A' s H cl C code fp r).pe) hs) fun σ H Q hq => ?_⟩
  obtain ⟨G, F, env, k, u, k', S, hm, q⟩ := hq
  obtain ⟨⟨us, k1⟩, e1, hm⟩ := ob hm
  obtain ⟨tot, e2, hm⟩ := ob hm
  dsimp only at hm
  split at hm
  · rename_i hz
    cases hm
    refine gen_imp hP go ⟨G, F, env, k, us, _, tot, S, e1, e2, fun W hW => ⟨size1000 hz, fun i xs H' hw hl p hp => ?_⟩⟩
    obtain ⟨F', don, rest, B, st, r, ht⟩ := hW i xs H' hw
    have e : don = tot := by
      have h1 := r.length
      have h2 : rest = [] := by
        have : don.length + rest.length = tot.length := by rw [← ht]; simp
        exact List.length_eq_zero_iff.mp (by omega)
      rw [← ht, h2, List.append_nil]
    subst e
    have st2 := stp_alloc (o := .tup xs) B hp (by intro ps z; cases z)
    exact q _ _ _ (S.step (st.trans st2) (B.alloc (o := .tup xs) hp (by intro ps z; cases z)).1) (st.trans st2) (.tup (.inr rfl) upd_same (r.mono st2.mo))
  · cases hm
end
end
end UM
set_option linter.all false
set_option Elab.async false
set_option maxRecDepth 100000
set_option maxHeartbeats 1000000
namespace L2
open PySem PySem.Spec PyProof.Rows
theorem compLoop_anyD {prog : Program} {w : World} {A : Around} {R : Result → Shared → Prop} {s : Shared} {kx vx target iter : Expr} {ifs : List Expr} {scope : Scope} {pos : Pos} {it : Value} {D : Addr} {env : Env} (I : Nat → Shared → Prop)
    (turn : ∀ n s, I n s → wpAny (model prog w) A (pyNext it) (fun r s₁ => match r with
      | none => R (.ok .next) s₁
      | some v => wpAny (model prog w) A (letOwnedTupleGo target it v) (fun _ s₁' => wpAny (model prog w) A (assign target env v) (fun _ s₂ =>
          wpAny (model prog w) A (forIn ifs true fun c r => if r = true then do let ok ← isTrue c env (eval c env); pure (ForInStep.yield ok) else pure (ForInStep.yield r)) (fun ok s₃ =>
            if ok = true then wpAny (model prog w) A (eval kx env) (fun kv s₄ => wpAny (model prog w) A (eval vx env) (fun vv s₅ =>
              wpAny (model prog w) A (dictSet D kv vv) (fun _ s₆ => ∃ m, m < n ∧ I m s₆) (notedBy (model prog w) A env fun e s' => R (.error e) s') s₅) (notedBy (model prog w) A env fun e s' => R (.error e) s') s₄) (notedBy (model prog w) A env fun e s' => R (.error e) s') s₃
            else ∃ m, m < n ∧ I m s₃) (notedBy (model prog w) A env fun e s' => R (.error e) s') s₂) (notedBy (model prog w) A env fun e s' => R (.error e) s') s₁') (notedBy (model prog w) A env fun e s' => R (.error e) s') s₁) (notedBy (model prog w) A env fun e s' => R (.error e) s') s)
    (n : Nat) (h : I n s) :
    codeAny (model prog w) A (.compLoop (.DictComp kx vx [⟨target, iter, ifs, 0⟩] scope pos) 0 it (.ref D) env) R s := by
  refine codeAny_loop rfl I (fun n s hI => ?_) n h
  show wpAny _ A ((compTurn (.DictComp kx vx [⟨target, iter, ifs, 0⟩] scope pos) 0 it (.ref D) env).onRaise (fun x => do noteFrame x env; theTreesLotGoes x)) _ _ s
  refine wpAny_noted ?_
  rw [compTurn_dict]
  refine wpAny_bind (wpAny_standAt (wpAny_bind (wpAny_mono (turn n s hI) (fun r s₁ h₁ => ?_) fun _ _ h' => h')))
  cases r with
  | none => exact wpAny_pure h₁
  | some v =>
    refine wpAny_bind (wpAny_mono h₁ (fun _ s₁' h₁' => ?_) fun _ _ h' => h')
    refine wpAny_bind (wpAny_mono h₁' (fun _ s₂ h₂ => wpAny_bind (wpAny_mono h₂ (fun ok s₃ h₃ => ?_) fun _ _ h' => h')) fun _ _ h' => h')
    cases ok with
    | false => exact wpAny_pure ⟨rfl, h₃⟩
    | true =>
      exact wpAny_bind (wpAny_bind (wpAny_mono h₃ (fun kv s₄ h₄ => wpAny_bind (wpAny_holding (wpAny_mono h₄ (fun vv s₅ h₅ => wpAny_bind (wpAny_standAt (wpAny_holding (wpAny_mono h₅ (fun _ s₆ h₆ => wpAny_pure ⟨rfl, h₆⟩) fun _ _ h' => h')))) fun _ _ h' => h'))) fun _ _ h' => h'))
section
variable {X : Cx}
theorem dset_ok {pins : List (Addr × Obj)} {s : Shared} {σ : St} {H : Hp} {E : Value → Shared → Prop} {D : Addr} {kvs : List (Key × V)} {k : Key} {v : V} {u r : Value} {Q : Unit → Shared → Prop} (I : Inv X pins σ H s) (hD : H D = some (.dK kvs)) (l : kvs.length < sizeLine) (ry : RelV (kV k) u) (rv : RelV v r)
    (h : ∀ s', Inv X pins σ (upd H D (.dK (putK kvs k v))) s' → Q () s') : wpAny (model X.prog X.w) X.A (dictSet D u r) Q E s := by
  obtain ⟨z, hd, vs, rel, dd⟩ := dk_of I.hok hD
  have hz : vs.length ≤ sizeLine := by rw [← rel.length]; exact z
  have hl : (putK kvs k v).length ≤ sizeLine := by have := length_putK kvs k v; omega
  refine wpAny_dictSet_pairs (hsz := hz) (kV_is ry) dd fun h' dd' hs => h _ ?_
  have he : ∃ q, h'.get? D = some q := let ⟨q, _, _, hq, _⟩ := dd'; ⟨q, hq⟩
  exact d_write I (by rw [hD]; exact True.intro) hs he (dk_new hl hd (rel.put k rv) dd')
def tDc (wi : TI) (g : TG) (tt : TT) (te tv : TE) (vs : List Nat) : TE := fun σ H Q => wi σ H fun J H1 => ∀ D, H1 D = none → ∃ W : Nat → Nat → Hp → Prop, (∃ m, W 0 m (upd H1 D (.dK []))) ∧ ∀ i m H, W i m H →
  (J.stop i H ∧ Q (.ref D) H) ∨ (J.go i H ∧ ∃ Nx : Hp → Prop, (∀ H', Nx H' → ∃ m', m' < m ∧ W (i + 1) m' H') ∧ ∀ x H', J.yld i H x H' → g x (wipe σ vs) H' fun σ2 H2 => wipe σ2 vs = wipe σ vs ∧ tt σ2 H2 fun b H3 =>
    if b = true then te σ2 H3 fun y H4 => tv σ2 H4 fun v H5 => ∃ kvs k, H5 D = some (.dK kvs) ∧ y = kV k ∧ kvs.length < sizeLine ∧ Nx (upd H5 D (.dK (putK kvs k v))) else Nx H3)
theorem dc_core {pins : List (Addr × Obj)} {s : Shared} {σ : St} {H : Hp} {Q : VK} {kx vx tg iter : Expr} {ifs : List Expr} {scope : Scope} {own : List (Str × Nat)} {pos pos' : Pos} {wi : TI} {g : TG} {tt : TT} {te tv : TE} {use : Option (Value → Sem Unit)} {Qf : Value → Shared → Prop}
    (hc : X.calm = true) (hN : X.N.Nodup) (I : Inv X pins σ H s) (hi : PI X tg iter wi) (ok : BlkOk X.N X.env.scope scope own)
    (hg : ∀ (s : Shared) (H : Hp) (C : Addr) (cl : List (Str × Addr)) (fp : List Addr), PG (X.blk s H scope (compEnvC scope cl C X.env) fp) tg g) (ht : ∀ (s : Shared) (H : Hp) (C : Addr) (cl : List (Str × Addr)) (fp : List Addr), PTs (X.blk s H scope (compEnvC scope cl C X.env) fp) ifs tt)
    (he : ∀ (s : Shared) (H : Hp) (C : Addr) (cl : List (Str × Addr)) (fp : List Addr), PE (X.blk s H scope (compEnvC scope cl C X.env) fp) kx te)
    (hv : ∀ (s : Shared) (H : Hp) (C : Addr) (cl : List (Str × Addr)) (fp : List Addr), PE (X.blk s H scope (compEnvC scope cl C X.env) fp) vx tv) (hs : ∀ x, foldedSetIterable iter X.env x = pure x)
    (h : tDc wi g tt te tv (own.map (·.2)) σ H Q)
    (hRR : ∀ D C s' m H', Inv X pins σ H' s' → Q (.ref D) H' → s'.heap.Ns C m → FpOk X pins H' C → compPost (model X.prog X.w) X.A X.xe use Qf (.ref D) C (.ok .next) s') :
    wpAny (model X.prog X.w) X.A (comprehension (.DictComp kx vx [⟨tg, iter, ifs, 0⟩] scope pos) scope X.env pos' newDict false (eval iter X.env) use) Qf X.xe s := by
  have hfree : ∀ y ∈ scope.names, y.2 = .free → ∃ c, X.env.cells.lookup y.1 = some c := fun y hy e => by
    rcases ok.free y hy e with k | k
    · exact I.ok.has _ (.inl k)
    · exact I.ok.has _ (.inr k)
  refine wpAny_comprehension_free (use := use) rfl hs (closure_ok hfree) ok.kind (fun y hy e => by rw [ok.uniq y hy, e])
    (thn (hi pins s σ H _ I h) fun xv s1 hx => thn hx fun itv s2 h2 => ?_)
  obtain ⟨it, fp, tn, J, H2, e, I2, T, st2, f2, q⟩ := h2
  subst e
  refine wpAny_newObj_type (newEnv_comp ?_)
  generalize hD : s2.heap.objs.size = D
  have hDn : H2 D = none := I2.hok.fresh (Nat.le_of_eq hD)
  obtain ⟨W, ⟨m0, w0⟩, turn⟩ := q D hDn
  -- the new list
  generalize hs3 : ({ s2 with heap := s2.heap.push { cls := .type "dict", data := .dict #[] } } : Shared) = s3
  have I3 : Inv X pins σ (upd H2 D (.dK [])) s3 := by
    rw [← hs3]
    have z := dk_empty (P := X.prog) (w := X.w) (H := upd H2 D (.dK [])) s2.heap I2.big
    rw [hD] at z
    exact I2.laid (t' := s2.toks) (fun b o e => Heap.get?_push_of_some _ e) (Nat.le_of_eq hD) z
  have h3 : s3.heap = s2.heap.push { cls := .type "dict", data := .dict #[] } := by rw [← hs3]
  have sz : ∀ b ∈ fp, b < s2.heap.objs.size := fun b hb => by
    obtain ⟨o, e, _⟩ := T.obj _ _ st2 b hb
    exact Heap.lt_size e
  have f3 : ∀ b ∈ fp, FpOk X pins (upd H2 D (.dK [])) b ∧ b < s3.heap.objs.size := fun b hb => by
    have hlt := sz b hb
    refine ⟨⟨?_, (f2 b hb).2⟩, by rw [h3, Heap.size_push]; exact Nat.lt_succ_of_lt hlt⟩
    rw [upd_ne (by rw [← hD]; exact Nat.ne_of_lt hlt)]
    exact (f2 b hb).1
  have st3 : tn 0 s3.heap := T.keep _ _ _ st2 fun b _ o e => by rw [h3]; exact Heap.get?_push_of_some _ e
  have I4 := block_start I3 ok hN f3
  have pg := hg s3 (upd H2 D (.dK [])) s3.heap.objs.size (cellsFrom (s3.heap.objs.size + 1) scope.names (cloFrom X.env.cells scope.names [])) fp
  have pt := ht s3 (upd H2 D (.dK [])) s3.heap.objs.size (cellsFrom (s3.heap.objs.size + 1) scope.names (cloFrom X.env.cells scope.names [])) fp
  have pe := he s3 (upd H2 D (.dK [])) s3.heap.objs.size (cellsFrom (s3.heap.objs.size + 1) scope.names (cloFrom X.env.cells scope.names [])) fp
  show codeAny _ _ (.compStart (.DictComp kx vx [⟨tg, iter, ifs, 0⟩] scope pos) 0 (.ref it) (.ref D) (compEnvC scope (cellsFrom (s3.heap.objs.size + 1) scope.names (cloFrom X.env.cells scope.names [])) s3.heap.objs.size X.env)) (compPost (model X.prog X.w) X.A X.xe use Qf (.ref D) s3.heap.objs.size) { s3 with heap := pushCells (s3.heap.push { cls := .type "dict", data := .dict #[] }) scope.names }
  have pv := hv s3 (upd H2 D (.dK [])) s3.heap.objs.size (cellsFrom (s3.heap.objs.size + 1) scope.names (cloFrom X.env.cells scope.names [])) fp
  have nfp : ∀ b ∈ fp, (upd H2 D (.dK [])) b = none := fun b hb => (f3 b hb).1.1
  generalize hce : compEnvC scope (cellsFrom (s3.heap.objs.size + 1) scope.names (cloFrom X.env.cells scope.names [])) s3.heap.objs.size X.env = ce at I4 pg pt pe pv ⊢
  have cL : ce.locals = s3.heap.objs.size := by subst hce; rfl
  generalize hH3 : upd H2 D (.dK []) = H3 at I3 I4 pg pt pe pv w0 nfp f3
  generalize hs4 : ({ s3 with heap := pushCells (s3.heap.push { cls := .type "dict", data := .dict #[] }) scope.names } : Shared) = s4 at I4 ⊢
  have st4 : tn 0 s4.heap := T.keep _ _ _ st3 fun b _ o e => by rw [← hs4]; exact pushCells_keeps _ _ _ _ (Heap.get?_push_of_some _ e)
  have stat : ∀ {σ' : St} {H' : Hp} {s' : Shared}, Inv (X.blk s3 H3 scope ce fp) [] σ' H' s' → (∀ b ∈ fp, H' b = none) → ∀ b ∈ fp, FpOk (X.blk s3 H3 scope ce fp) [] H' b := fun {σ' H' s'} I' hn b hb =>
    ⟨hn b hb, (I'.ok.exf b hb).1, I'.ok.exfs b hb, .inl hb, fun x c e => (I'.ok.exf b hb).2 x c e, fun p hp => absurd (show p ∈ ([] : List (Addr × Obj)) ++ [] from hp) (by simp)⟩
  have loop : codeAny (model X.prog X.w) X.A (.compLoop (.DictComp kx vx [⟨tg, iter, ifs, 0⟩] scope pos) 0 (.ref it) (.ref D) ce) (compPost (model X.prog X.w) X.A X.xe use Qf (.ref D) s3.heap.objs.size) s4 := by
    refine compLoop_anyD (fun n s' => ∃ i H', Inv (X.blk s3 H3 scope ce fp) [] (wipe σ (own.map (·.2))) H' s' ∧ tn i s'.heap ∧ (∀ b ∈ fp, H' b = none) ∧ W i n H') ?_ m0 ⟨0, H3, I4, st4, nfp, w0⟩
    rintro n s5 ⟨i, H5, I5, st5, n5, w5⟩
    rcases turn i n H5 w5 with ⟨stop, qq⟩ | ⟨go, Nx, hNx, step⟩
    · have td := T.done (X.blk s3 H3 scope ce fp) rfl rfl rfl hc i [] s5 _ H5 (fun _ _ => False) I5 (stat I5 n5) st5 stop
      refine thnF td fun r s6 ⟨hr, I6⟩ => ?_
      subst hr
      -- back in the def's context
      have I7 : Inv X pins σ H5 s6 := I3.call' (ch := fp) I6.os I6.base I6.hok I6.bare fun b hb => ⟨(f3 b hb).1.2.2.2.1, (f3 b hb).1.2.1, (f3 b hb).1.2.2.2.2.1, (f3 b hb).1.2.2.2.2.2⟩
      have nC : H5 s3.heap.objs.size = none := by
        have z : H5 ce.locals = none := I6.free
        rw [cL] at z
        exact z
      obtain ⟨m, hn, _⟩ := I6.loc
      have hn : s6.heap.Ns ce.locals m := hn
      rw [cL] at hn
      exact hRR D s3.heap.objs.size s6 m H5 I7 qq hn (I3.fpOk (Nat.le_refl _) nC)
    · have ti := T.item (X.blk s3 H3 scope ce fp) rfl rfl rfl hc i [] s5 _ H5 (fun _ _ => False) I5 (stat I5 n5) st5 go
      refine thnF ti fun r s6 ⟨u, hr, h6⟩ => ?_
      subst hr
      refine thnF h6 fun _ s7 ⟨x, H7, I7, r7, y7, st7, n7⟩ => ?_
      have I7' := I7.pinned (stat I7 n7) (T.obj _ _ st7)
      refine thnF (pg _ s7 _ H7 x u _ I7' r7 (step x H7 y7)) fun _ s8 ⟨σ8, H8, I8, hw8, q8⟩ => ?_
      refine thnF (pt _ s8 σ8 H8 _ I8 q8) fun b s9 ⟨H9, I9, q9⟩ => ?_
      -- the turn's end
      have fin : ∀ {s' : Shared} {H' : Hp}, Inv (X.blk s3 H3 scope ce fp) ([] ++ pinsAt fp s7.heap) σ8 H' s' → Nx H' → ∃ m, m < n ∧ ∃ i H', Inv (X.blk s3 H3 scope ce fp) [] (wipe σ (own.map (·.2))) H' s' ∧ tn i s'.heap ∧ (∀ b ∈ fp, H' b = none) ∧ W i m H' := fun {s' H'} I' nx => by
        obtain ⟨m', hm, w'⟩ := hNx H' nx
        have pin' : ∀ b ∈ fp, ∀ o, s7.heap.get? b = some o → s'.heap.get? b = some o ∧ H' b = none := fun b hb o e =>
          let z := I'.pin (b, o) (List.mem_append_right _ (List.mem_append_right _ (mem_pinsAt hb e)))
          ⟨z.1, z.2.1⟩
        have hl : (wipe σ (own.map (·.2))).length = σ8.length := by rw [← hw8, wipe_length]
        refine ⟨m', hm, i + 1, H', (I'.unpinned (pins := [])).weak hl (fun j v e => ?_), T.keep _ _ _ st7 fun b hb o e => (pin' b hb o e).1, fun b hb => ?_, w'⟩
        · rw [← hw8] at e
          exact (wipe_some e).1
        · obtain ⟨o, e, _⟩ := T.obj _ _ st7 b hb
          exact (pin' b hb o e).2
      cases b with
      | false =>
        simp only [Bool.false_eq_true, if_false] at q9 ⊢
        exact fin I9 q9
      | true =>
        simp only [if_true] at q9 ⊢
        refine thnF (pe _ s9 σ8 H9 _ I9 q9) fun z s10 ⟨yv, H10, I10, r10, q10⟩ => ?_
        refine thnF (pv _ s10 σ8 H10 _ I10 q10) fun z2 s11 ⟨vv, H11, I11, r11, kvs, kk, hD11, hk11, hz11, nx⟩ => ?_
        subst hk11
        exact dset_ok (X := X.blk s3 H3 scope ce fp) I11 hD11 hz11 r10 r11 fun s12 I12 => fin I12 nx
  exact codeAny_compStart_dict loop (T.self X.A 0 _ _ _ st4 loop)
theorem pe_dc {kx vx tg iter : Expr} {ifs : List Expr} {scope : Scope} {own : List (Str × Nat)} {pos : Pos} {wi : TI} {g : TG} {tt : TT} {te tv : TE} (hc : X.calm = true) (hN : X.N.Nodup) (hi : PI X tg iter wi) (ok : BlkOk X.N X.env.scope scope own)
    (hg : ∀ (s : Shared) (H : Hp) (C : Addr) (cl : List (Str × Addr)) (fp : List Addr), PG (X.blk s H scope (compEnvC scope cl C X.env) fp) tg g) (ht : ∀ (s : Shared) (H : Hp) (C : Addr) (cl : List (Str × Addr)) (fp : List Addr), PTs (X.blk s H scope (compEnvC scope cl C X.env) fp) ifs tt)
    (he : ∀ (s : Shared) (H : Hp) (C : Addr) (cl : List (Str × Addr)) (fp : List Addr), PE (X.blk s H scope (compEnvC scope cl C X.env) fp) kx te)
    (hv : ∀ (s : Shared) (H : Hp) (C : Addr) (cl : List (Str × Addr)) (fp : List Addr), PE (X.blk s H scope (compEnvC scope cl C X.env) fp) vx tv) (hs : ∀ x, foldedSetIterable iter X.env x = pure x := by intro _; rfl) :
    PE X (.DictComp kx vx [⟨tg, iter, ifs, 0⟩] scope pos) (tDc wi g tt te tv (own.map (·.2))) := by
  intro pins s σ H Q I h
  rw [arm_eval_DictComp]
  refine dc_core hc hN I hi ok hg ht he hv hs h fun D C s' m H' I' q hn f => ⟨m, hn, fun h'' sb => ?_⟩
  obtain ⟨f0, f1, f2, f3, f4, f5⟩ := f
  exact ⟨.ref D, H', I'.turned (t' := s'.toks) (fun b o hb e => (sb.2 b hb).trans e) f0 f1 f3 f4 f5, rfl, q⟩
end
end L2
set_option linter.all false
set_option Elab.async false
set_option maxRecDepth 100000
set_option maxHeartbeats 1000000
namespace L2
open PySem PySem.Spec PyProof.Rows
section
variable {prog : Program} {w : World} {A : Around} {E : Value → Shared → Prop}
end
section
variable {X : Cx} {pos : Pos}
end
end L2
set_option linter.all false
set_option Elab.async false
set_option maxRecDepth 100000
set_option maxHeartbeats 1000000
namespace UM
open PySem L2
section
variable {K : PySem.W.Frag} {Ps : Tb} {G : Gx} {O O' : List Nat} {F F' F'' : Addr → Prop} {H H' H'' : Hp} {σ : St} {env : En} {k k' k'' : Nat}
theorem SR.share (S : SR K Ps G O F H σ env k) (i : Nat) (hO : ∀ j, j ∈ O' ↔ (j ∈ O ∧ j ≠ i)) : ∃ F', SR K Ps G O' F' H σ env k ∧ Mo F H F' H := by
  by_cases hn : i ∈ O ∧ ∃ u, env[i]? = some (some u)
  · obtain ⟨hi, u, e⟩ := hn
    obtain ⟨a, e1, o⟩ := S.ow i hi u e
    obtain ⟨w, hw, hnt⟩ : ∃ w, H a = some w ∧ ∀ ps, w ≠ .tbl ps := by
      have c := o.c
      cases u with
      | lst us => obtain ⟨vs, h, _⟩ := c; exact ⟨_, h, by intro ps z; cases z⟩
      | dct us => obtain ⟨vs, h, _⟩ := c; exact ⟨_, h, by intro ps z; cases z⟩
      | _ => exact c.elim
    obtain ⟨B, mo⟩ := S.b.share hw hnt o.nt o.n0
    refine ⟨_, ⟨S.hK, S.hP, B, S.len, fun j u' hj e' => ?_, fun j hj u' e' => ?_, fun x y b hx hy => S.ap x y b ((hO x).mp hx).1 ((hO y).mp hy).1⟩, mo⟩
    · by_cases hji : j = i
      · subst hji
        rw [e] at e'; cases e'
        refine ⟨.ref a, e1, ?_⟩
        have c := o.c
        cases u with
        | lst us => obtain ⟨vs, h, r⟩ := c; exact .lst (.inr rfl) h (r.mono mo)
        | dct us => obtain ⟨vs, h, r⟩ := c; exact .dct (.inr rfl) (.inl h) (r.mono mo)
        | _ => exact c.elim
      · obtain ⟨v, h1, h2⟩ := S.sl j u' (fun z => hj ((hO j).mpr ⟨z, hji⟩)) e'
        exact ⟨v, h1, h2.mono mo⟩
    · obtain ⟨hjO, hji⟩ := (hO j).mp hj
      obtain ⟨b, e2, o2⟩ := S.ow j hjO u' e'
      have ne : b ≠ a := fun z => hji (S.ap j i a hjO hi ⟨_, e'⟩ ⟨_, e⟩ (z ▸ e2) e1)
      refine ⟨b, e2, fun z => z.elim o2.nF ne, o2.nt, o2.n0, ?_⟩
      have c := o2.c
      cases u' with
      | lst us => obtain ⟨vs, h, r⟩ := c; exact ⟨vs, h, r.mono mo⟩
      | dct us => obtain ⟨vs, h, r⟩ := c; exact ⟨vs, h, r.mono mo⟩
      | _ => exact c.elim
  · refine ⟨F, S.drop (fun j hj => ((hO j).mp hj).1) fun j h1 h2 => ?_, .refl⟩
    have hji : j = i := by
      by_cases z : j = i
      · exact z
      · exact absurd ((hO j).mpr ⟨h1, z⟩) h2
    subst hji
    cases e : env[j]? with
    | none => exact .inr rfl
    | some x =>
      cases x with
      | none => exact .inl rfl
      | some u => exact absurd ⟨h1, u, e⟩ hn
theorem unborrow (B : Base G F H k) (sub : ∀ x, F x → F' x) (st : Stp G F' H F'' H'') (B'' : Base G F'' H'' k'') : Base G F H'' k'' ∧ Stp G F H F H'' := by
  have hh : ∀ a u, F a → H a = some u → H'' a = some u := fun a u f h => st.mo.h a u (sub a f) h
  refine ⟨⟨B.ok, B''.nn, B''.fr, B.f0, B.fF, fun a f => ?_, B.ft, B''.tw, B''.tb⟩, ⟨⟨fun _ f => f, hh⟩, fun a u n nt n0 h q => ?_⟩⟩
  · obtain ⟨u, e, q⟩ := B.fd a f
    exact ⟨u, hh a u f e, q⟩
  · by_cases z : F' a
    · exact ⟨n, st.mo.h a u z h⟩
    · exact ⟨n, (st.ow a u z nt n0 h q).2⟩
theorem SR.grow (S : SR K Ps G O F H σ env k) (h1 : ∀ i ∈ O, i ∈ O') (h2 : ∀ i, i ∈ O' → i ∉ O → env[i]? = some none ∨ env[i]? = none) : SR K Ps G O' F H σ env k := by
  have key : ∀ i, i ∈ O' → (∃ u, env[i]? = some (some u)) → i ∈ O := fun i hi ⟨u, e⟩ => by
    by_cases ho : i ∈ O
    · exact ho
    · rcases h2 i hi ho with z | z <;> rw [z] at e <;> cases e
  exact ⟨S.hK, S.hP, S.b, S.len, fun i u hi e => S.sl i u (fun z => hi (h1 i z)) e, fun i hi u e => S.ow i (key i hi ⟨u, e⟩) u e, fun i j a hi hj e1 e2 => S.ap i j a (key i hi e1) (key j hj e2) e1 e2⟩
theorem SR.asgO (S : SR K Ps G O F H σ env k) {i : Nat} {a : Addr} {u : U} (hO : ∀ j, j ∈ O' ↔ (j ∈ O ∨ j = i)) (ow : Own G F H a u) (hf : ∀ j ∈ O, ∀ u', env[j]? = some (some u') → σ[j]? ≠ some (some (.ref a))) :
    SR K Ps G O' F H (σ.set i (some (.ref a))) (env.set i (some u)) k := by
  have S1 := S.wipe1 i
  have hw : ∀ j u', (env.set i none)[j]? = some (some u') → env[j]? = some (some u') ∧ i ≠ j := fun j u' h => by
    by_cases hij : i = j
    · subst hij
      by_cases hv : i < env.length
      · rw [List.getElem?_set_self hv] at h; cases h
      · rw [List.getElem?_eq_none (by simpa using hv)] at h; cases h
    · rw [List.getElem?_set_ne hij] at h; exact ⟨h, hij⟩
  have S2 : SR K Ps G O' F H (σ.set i none) (env.set i none) k := S1.grow (fun j hj => (hO j).mpr (.inl hj)) fun j h1 h2 => by
    have hji : j = i := ((hO j).mp h1).elim (fun z => absurd z h2) id
    subst hji
    by_cases hv : j < env.length
    · exact .inl (List.getElem?_set_self hv)
    · exact .inr (List.getElem?_eq_none (by simpa using hv))
  have S3 := S2.putO (i := i) (a := a) (u := u) ((hO i).mpr (.inr rfl)) ow fun j hj u' hji e => by
    obtain ⟨e', hij⟩ := hw j u' e
    rw [List.getElem?_set_ne hij]
    exact hf j (((hO j).mp hj).elim id fun z => absurd z hji) u' e'
  rw [List.set_set, List.set_set] at S3
  exact S3
theorem SR.mut (S : SR K Ps G O F H σ env k) {i : Nat} {u u' : U} {a : Addr} {o : HO} (hi : i ∈ O) (e : env[i]? = some (some u)) (e1 : σ[i]? = some (some (.ref a))) (ow : Own G F H a u) (c : Mo F H F (upd H a o) → OwnC G.t G.sc F (upd H a o) a u') :
    SR K Ps G O F (upd H a o) σ (env.set i (some u')) k ∧ Mo F H F (upd H a o) := by
  obtain ⟨w, hw, hnt⟩ : ∃ w, H a = some w ∧ ∀ ps, w ≠ .tbl ps := by
    have c := ow.c
    cases u with
    | lst us => obtain ⟨vs, h, _⟩ := c; exact ⟨_, h, by intro ps z; cases z⟩
    | dct us => obtain ⟨vs, h, _⟩ := c; exact ⟨_, h, by intro ps z; cases z⟩
    | _ => exact c.elim
  obtain ⟨B, mo⟩ := S.b.write (o := o) hw hnt ow.nF ow.nt ow.n0
  have hlen : i < env.length := (List.getElem?_eq_some_iff.mp e).1
  have back : ∀ {j : Nat} {w : U}, (env.set i (some u'))[j]? = some (some w) → ∃ w', env[j]? = some (some w') := fun {j w} h => by
    by_cases hij : i = j
    · subst hij; exact ⟨u, e⟩
    · rw [List.getElem?_set_ne hij] at h; exact ⟨w, h⟩
  refine ⟨⟨S.hK, S.hP, B, by simp [S.len], fun j w hj e' => ?_, fun j hj w e' => ?_, fun x y b hx hy h1 h2 => S.ap x y b hx hy (h1.elim fun _ h => back h) (h2.elim fun _ h => back h)⟩, mo⟩
  · have hij : i ≠ j := fun z => hj (z ▸ hi)
    rw [List.getElem?_set_ne hij] at e'
    obtain ⟨v, h1, h2⟩ := S.sl j w hj e'
    exact ⟨v, h1, h2.mono mo⟩
  · by_cases hij : i = j
    · subst hij
      rw [List.getElem?_set_self hlen] at e'; cases e'
      exact ⟨a, e1, ow.nF, ow.nt, ow.n0, c mo⟩
    · rw [List.getElem?_set_ne hij] at e'
      obtain ⟨b, e2, o2⟩ := S.ow j hj w e'
      have ne : b ≠ a := fun z => hij (S.ap i j a hi hj ⟨_, e⟩ ⟨_, e'⟩ e1 (z ▸ e2))
      refine ⟨b, e2, o2.nF, o2.nt, o2.n0, ?_⟩
      have c := o2.c
      cases w with
      | lst us => obtain ⟨vs, h, r⟩ := c; exact ⟨vs, by rw [upd_ne ne]; exact h, r.mono mo⟩
      | dct us => obtain ⟨vs, h, r⟩ := c; exact ⟨vs, by rw [upd_ne ne]; exact h, r.mono mo⟩
      | _ => exact c.elim
theorem SR.newO (S : SR K Ps G O F H σ env k) {p : Addr} {o : HO} {u : U} (hp : H p = none) (c : Mo F H F (upd H p o) → OwnC G.t G.sc F (upd H p o) p u) :
    SR K Ps G O F (upd H p o) σ env k ∧ Stp G F H F (upd H p o) ∧ Own G F (upd H p o) p u ∧ ∀ j ∈ O, ∀ u', env[j]? = some (some u') → σ[j]? ≠ some (some (.ref p)) := by
  obtain ⟨B, mo, nF, nt, n0⟩ := S.b.allocO (o := o) hp
  have st := stp_allocO (o := o) S.b hp
  exact ⟨S.step st B, st, ⟨nF, nt, n0, c mo⟩, fun j hj u' e => S.own_ne hp j hj u' e⟩
end
def tMF (K : PySem.W.Frag) (Ps : Tb) (O : List Nat) (m : EM) : TE := fun σ H Q => ∃ G F env k u k', SR K Ps G O F H σ env k ∧ m env k = some (u, k') ∧ ∀ a H' F', SR K Ps G O F' H' σ env k' → Stp G F H F' H' → Own G F' H' a u →
  (∀ j ∈ O, ∀ u', env[j]? = some (some u') → σ[j]? ≠ some (some (.ref a))) → Q (.ref a) H'
structure PEF (X : Cx) (Ps : Tb) (O : List Nat) (e : Expr) (m : EM) : Prop where
  pe : PE X e (tMF X.K Ps O m)
section
variable {X : Cx} {Ps : Tb} {Ob O O' O1 O2 : List Nat} {a b c : Expr} {es : List Expr} {ma mb mc : EM} {ms : AM} {pos cpos : Pos} {st : Stmt} {sts : List Stmt} {m1 m2 : SM} {tg : Expr} {iter elt : Expr} {ifs : List Expr} {scope : Scope} {own : List (Str × Nat)} {g : GM} {mt : BM} {me : EM} {vs : List Nat}
theorem psv_share (i : Nat) (hO : ∀ j, j ∈ O' ↔ (j ∈ O ∧ j ≠ i)) (h : PSV X Ps Ob O' O1 st m1) : PSV X Ps Ob O O1 st m1 := ⟨impS h.ps fun D σ H ⟨G, F, env, k, c, k', S, hm, q⟩ => by
  obtain ⟨F', S', mo⟩ := S.share i hO
  exact ⟨G, F', env, k, c, k', S', hm, q.pre mo⟩⟩
theorem pbv_borrow (i : Nat) (hO : ∀ j, j ∈ O' ↔ (j ∈ O ∧ j ≠ i)) {m : BM} (h : PBV X Ps O' a m) : PBV X Ps O a m := ⟨impT h.pt fun σ H Q ⟨G, F, env, k, u, k', S, hm, q⟩ => by
  obtain ⟨F', S', mo⟩ := S.share i hO
  refine ⟨G, F', env, k, u, k', S', hm, fun H1 F1 S1 st1 => ?_⟩
  obtain ⟨B2, st2⟩ := unborrow S.b mo.f st1 S1.b
  exact q H1 F (S.step st2 B2) st2⟩
theorem pef_dnew : PEF X Ps O (.Dict [] [] pos) (eC (.dct [])) := ⟨impE pe_dnewK fun σ H Q ⟨G, F, env, k, u, k', S, hm, q⟩ p hp => by
  cases hm
  obtain ⟨S1, st1, o1, f1⟩ := S.newO (o := .dK []) (u := .dct []) hp fun _ => ⟨[], upd_same, .nil⟩
  exact q _ _ _ S1 st1 o1 f1⟩
def CallF (r : List V → Hp → VK → Prop) (f : List U → Option U) : Prop := ∀ {K : PySem.W.Frag} {Ps : Tb} {G : Gx} {O : List Nat} {F : Addr → Prop} {H : Hp} {σ : St} {env : En} {k : Nat} {Q : VK} {vs : List V} {us : List U} {u : U},
  SR K Ps G O F H σ env k → Reps G.t G.sc F H vs us → f us = some u → (∀ a H' F', SR K Ps G O F' H' σ env k → Stp G F H F' H' → Own G F' H' a u → (∀ j ∈ O, ∀ u', env[j]? = some (some u') → σ[j]? ≠ some (some (.ref a))) → Q (.ref a) H') → r vs H Q
theorem cbF_imp {r : List V → Hp → VK → Prop} {f : List U → Option U} (h : CallF r f) {K : PySem.W.Frag} {σ : St} {H : Hp} {Q : VK} (hq : tMF K Ps O (eFn f ms) σ H Q) : tCB r (tMA K Ps O ms) σ H Q := by
  obtain ⟨G, F, env, k, u, k', S, hm, q⟩ := hq
  obtain ⟨⟨xs, k1⟩, h1, hm⟩ := ob hm
  obtain ⟨u', h3, hm⟩ := ob hm
  cases hm
  exact ⟨G, F, env, k, xs, _, S, h1, fun vs H1 F1 S1 m1 r1 => h S1 r1 h3 fun z H2 F2 S2 m2 r2 f2 => q z H2 F2 S2 (m1.trans m2) r2 f2⟩
theorem pef_callT {r : List V → Hp → VK → Prop} {f : List U → Option U} {x : Str} {id : String} {p : Pos} (hc : CallR X (.type id) r) (h : CallF r f) (hg : Gl X x) (hm : X.mg x = none) (hv : bootBuiltins x = some (.type id)) (ha : PAV X Ps O (a :: es) ms) (hn : x ≠ "__name__" := by decide) (hdb : (x == ("__debug__" : Str)) = false := by decide)
    (he : starEach (a :: es) X.env = (false, eval a X.env) :: starEach es X.env := by rfl) (hpl : (backTo pos (starEach es X.env)).any (·.1) = false := by rfl) : PEF X Ps O (.Call (.Name x p) (a :: es) [] pos) (eFn f ms) :=
  ⟨impE (pe_callTy hc hg hm hv ha.pa hn hdb he hpl) fun σ H Q hq => cbF_imp h hq⟩
theorem cf_dict (K' : PySem.W.Frag) : CallF (rDictU K') fDict := by
  intro K Ps G O F H σ env k Q vs us u S r hf q
  have fin : ∀ {kvs : List (Key × V)} {kus : List (Key × U)}, RepK G.t G.sc F H kvs kus → u = .dct kus → ∀ p, H p = none → Q (.ref p) (upd H p (.dK kvs)) := fun {kvs kus} r e p hp => by
    subst e
    obtain ⟨S2, st2, o2, f2⟩ := S.newO (o := .dK kvs) (u := .dct kus) hp fun mo => ⟨kvs, upd_same, r.mono mo⟩
    exact q _ _ _ S2 st2 o2 f2
  cases r with
  | nil => cases hf
  | cons h1 r =>
    cases r with
    | cons _ _ => revert hf; cases h1 <;> exact fun z => nomatch z
    | nil =>
      cases h1 with
      | dct f h r => cases hf; exact .inl ⟨_, _, rfl, h, fin r rfl⟩
      | @lst a ws xs f h r =>
        simp only [fDict] at hf
        cases e : pairsU xs with
        | none => rw [e] at hf; cases hf
        | some kus =>
          rw [e] at hf
          have hf : some (U.dct (kmerge [] kus)) = some u := hf
          obtain ⟨ps, kvs, g1, g2, g3⟩ := pairsU_reps (K := K') r e
          subst g1
          exact .inr (.inl ⟨a, ps, kvs, rfl, SqL.of h, g2, fin (g3.merge .nil) (Option.some.inj hf).symm⟩)
      | @tup a ws xs f h r =>
        simp only [fDict] at hf
        cases e : pairsU xs with
        | none => rw [e] at hf; cases hf
        | some kus =>
          rw [e] at hf
          have hf : some (U.dct (kmerge [] kus)) = some u := hf
          obtain ⟨ps, kvs, g1, g2, g3⟩ := pairsU_reps (K := K') r e
          subst g1
          exact .inr (.inr ⟨a, ps, kvs, rfl, h, g2, fin (g3.merge .nil) (Option.some.inj hf).symm⟩)
      | _ => cases hf
theorem cf_list (K' : PySem.W.Frag) : CallF (fun xs H Q => ∃ p ys, xs = [.ref p] ∧ (SqL K' H p ys ∨ SqT K' H p ys) ∧ ∀ l, H l = none → Q (.ref l) (upd H l (.lst ys))) fList := by
  intro K Ps G O F H σ env k Q vs us u S r hf q
  have fin : ∀ {ws : List V} {xs : List U}, Reps G.t G.sc F H ws xs → u = .lst xs → ∀ p, H p = none → Q (.ref p) (upd H p (.lst ws)) := fun {ws xs} r e p hp => by
    subst e
    obtain ⟨S2, st2, o2, f2⟩ := S.newO (o := .lst ws) (u := .lst xs) hp fun mo => ⟨ws, upd_same, r.mono mo⟩
    exact q _ _ _ S2 st2 o2 f2
  cases r with
  | nil => cases hf
  | cons h1 r =>
    cases r with
    | cons _ _ => revert hf; cases h1 <;> exact fun z => nomatch z
    | nil =>
      cases h1 with
      | @tup a ws us f h r => cases hf; exact ⟨_, _, rfl, .inr (SqT.of h), fin r rfl⟩
      | @lst a ws us f h r => cases hf; exact ⟨_, _, rfl, .inl (SqL.of h), fin r rfl⟩
      | _ => cases hf
theorem psv_asgO (i : Nat) {x : Str} {pos' : Pos} (hN : X.N.Nodup) (hO : ∀ j, j ∈ O' ↔ (j ∈ O ∨ j = i)) (ha : PEF X Ps O a ma) (hi : X.N[i]? = some x := by rfl) (hx : Loc X.env.scope x := by first | exact .inl rfl | exact .inr rfl) (hs : swapsWith a (some (.Name x pos')) pos.line X.env = pure false := by rfl)
    (hf : X.fn x = true ∨ X.env.scope.names.lookup x = some .local := by first | exact .inl rfl | exact .inr rfl | assumption) : PSV X Ps Ob O O' (.Assign [.Name x pos'] a pos) (sAsg i ma) := ⟨impS (ps_set hN hi hx ha.pe hs hf) fun D σ H ⟨G, F, env, k, c, k', S, hm, q⟩ => by
  obtain ⟨⟨u, k1⟩, e1, hm⟩ := ob hm
  cases hm
  exact ⟨G, F, env, k, u, _, S, e1, fun v H1 F1 S1 m1 o1 f1 => q _ H1 F1 (S1.asgO hO o1 f1) m1.mo⟩⟩
def sDput (i : Nat) (kE vE : EM) : SM := fun env n => (vE env n).bind fun x => (kE env x.2).bind fun y => match env[i]? with
  | some (some (.dct kvs)) => (toKey y.1).bind fun key => if kvs.length < 1000 then some (.nx (env.set i (some (.dct (kput kvs key x.1)))), y.2) else none
  | _ => none
theorem psv_dput (i : Nat) {x : Str} {px pos' : Pos} (hu : X.A.units + 1 < cLine) (hi : i ∈ O) (hk : PEV X Ps O a ma) (hv : PEV X Ps O b mb) (hN : X.N[i]? = some x := by rfl) (hvis : Vis X.env.scope x := by first | exact Or.inl rfl | exact Or.inr (Or.inl rfl) | exact Or.inr (Or.inr rfl)) (hd : (x == ("__debug__" : Str)) = false := by decide)
    (hcd : (x == ("__classdict__" : Str)) = false := by decide) (hs : swapsWith b (some (.Subscript (.Name x px) a pos')) pos.line X.env = pure false := by rfl) : PSV X Ps Ob O O (.Assign [.Subscript (.Name x px) a pos'] b pos) (sDput i ma mb) := ⟨impS (ps_dput hu (pv i hN hvis hd hcd) hk.pe hv.pe hs) fun D σ H ⟨G, F, env, k, c, k', S, hm, q⟩ => by
  obtain ⟨⟨u, k1⟩, e1, hm⟩ := ob hm
  obtain ⟨⟨y, k2⟩, e2, hm⟩ := ob hm
  refine ⟨G, F, env, k, u, k1, S, e1, fun v H1 F1 S1 m1 r1 => ?_⟩
  dsimp only at hm
  split at hm
  · rename_i kus ee
    obtain ⟨key, e3, hm⟩ := ob hm
    split at hm
    · rename_i hlt
      cases hm
      obtain ⟨ad, ea, o⟩ := S1.ow i hi _ ee
      refine ⟨.ref ad, ea, G, F1, env, k1, y, _, S1, e2, fun w H2 F2 S2 m2 r2 => ?_⟩
      obtain ⟨ad2, ea2, o2⟩ := S2.ow i hi _ ee
      rw [ea] at ea2; cases ea2
      obtain ⟨kvs, h, r⟩ := o2.c
      refine ⟨ad, _, rfl, .inl ⟨kvs, key, h, r2.key e3, by rw [r.length]; exact small1000 (Nat.le_of_lt hlt), rfl⟩, ?_⟩
      obtain ⟨S3, mo3⟩ := S2.mut (u' := .dct (kput kus key u)) (o := .dK (putK kvs key v)) hi ee ea o2 fun mo => ⟨_, upd_same, (r.put (r1.mono m2.mo) key).mono mo⟩
      exact q _ _ _ S3 (m1.mo.trans (m2.mo.trans mo3))
    · cases hm
  · cases hm⟩
end
end UM
set_option linter.all false
set_option Elab.async false
set_option maxRecDepth 100000
set_option maxHeartbeats 1000000
namespace UM
open PySem L2
section
variable {K : PySem.W.Frag} {Ps : Tb} {G : Gx} {O O' : List Nat} {F F' F'' : Addr → Prop} {H H' H'' : Hp} {σ : St} {env : En} {k k' k'' : Nat}
theorem Base.swap (B : Base G F H k) {d : Addr} {x y : HO} (f : F d) (hd : H d = some x) (hy : ∀ ps, y ≠ .tbl ps) (hx : ∀ ps, x ≠ .tbl ps) : Base G F (upd H d y) k := by
  have nt : G.t ≠ d := fun z => B.ft (z ▸ f)
  refine ⟨B.ok, fun a h => ?_, fun a u h1 h2 h3 h4 => ?_, B.f0, B.fF, fun a h => ?_, B.ft, ?_, fun P hP => ?_⟩
  · by_cases z : a = d
    · rw [z, upd_same] at h; cases h
    · rw [upd_ne z] at h; exact B.nn a h
  · have ne : a ≠ d := fun z => by
      rcases B.fF d f with q | q
      · exact h4 (z ▸ q)
      · rw [z, q] at h1; cases h1
    rw [upd_ne ne]; exact B.fr a u h1 h2 h3 h4
  · by_cases z : a = d
    · rw [z]; exact ⟨y, upd_same, hy⟩
    · rw [upd_ne z]; exact B.fd a h
  · obtain ⟨l, h, e⟩ := B.tw
    exact ⟨l, by rw [upd_ne nt]; exact h, e⟩
  · obtain ⟨ps, h, q⟩ := B.tb P hP
    have ne : P ≠ d := fun z => by rw [z, hd] at h; cases h; exact hx ps rfl
    exact ⟨ps, by rw [upd_ne ne]; exact h, q⟩
theorem SR.swap (S : SR K Ps G O F H σ env k) {d : Addr} {y : HO} (f : F d) (m : MoW F H F (upd H d y)) (B : Base G F (upd H d y) k) : SR K Ps G O F (upd H d y) σ env k := by
  refine ⟨S.hK, S.hP, B, S.len, fun j u hj e => ?_, fun j hj u e => ?_, S.ap⟩
  · obtain ⟨v, h1, h2⟩ := S.sl j u hj e
    exact ⟨v, h1, h2.monoW m⟩
  · obtain ⟨a, e1, o⟩ := S.ow j hj u e
    have ne : a ≠ d := fun z => o.nF (z ▸ f)
    refine ⟨a, e1, o.nF, o.nt, o.n0, ?_⟩
    have c := o.c
    cases u with
    | lst us => obtain ⟨vs, h, r⟩ := c; exact ⟨vs, by rw [upd_ne ne]; exact h, r.monoW m⟩
    | dct us => obtain ⟨vs, h, r⟩ := c; exact ⟨vs, by rw [upd_ne ne]; exact h, r.monoW m⟩
    | _ => exact c.elim
end
theorem RepK.at : ∀ {t sc : Addr} {F : Addr → Prop} {H : Hp} {kvs : List (Key × V)} {kus : List (Key × U)}, RepK t sc F H kvs kus → ∀ {i : Nat} {k : Key} {v : V}, kvs[i]? = some (k, v) → ∃ u, kus[i]? = some (k, u) ∧ Rep t sc F H v u
  | _, _, _, _, _, _, .nil, i, k, v, e => by simp at e
  | _, _, _, _, _, _, .cons h r, 0, k, v, e => by simp at e; obtain ⟨rfl, rfl⟩ := e; exact ⟨_, rfl, h⟩
  | _, _, _, _, _, _, .cons h r, i + 1, k, v, e => by simpa using RepK.at r (i := i) (by simpa using e)
section
variable {X : Cx} {Ps : Tb} {Ob O O' O1 O2 : List Nat} {a b c : Expr} {es : List Expr} {ma mb mc : EM} {ms : AM} {pos cpos : Pos} {st : Stmt} {sts : List Stmt} {m1 m2 : SM} {tg : Expr} {iter elt : Expr} {ifs : List Expr} {scope : Scope} {own : List (Str × Nat)} {g : GM} {mt : BM} {me mk : EM} {vs : List Nat}
def dcL (g : GM) (t : BM) (ke ve : EM) (env : En) : List U → List (Key × U) → Nat → Option (List (Key × U) × Nat)
  | [], acc, k => some (acc, k)
  | u :: us, acc, k => (g u env).bind fun env1 => (t env1 k).bind fun b => if b.1 = true then (ke env1 b.2).bind fun y => (ve env1 y.2).bind fun v => (toKey y.1).bind fun key => if acc.length < 1000 then dcL g t ke ve env us (kput acc key v.1) v.2 else none else dcL g t ke ve env us acc b.2
def eDc (src : AM) (vs : List Nat) (g : GM) (t : BM) (ke ve : EM) : EM := fun env k => (src env k).bind fun x => (dcL g t ke ve (wipeE env vs) x.1 [] x.2).bind fun r => some (.dct r.1, r.2)
theorem dc_imp {K : PySem.W.Frag} {σ : St} {H : Hp} {Q : VK} (go : GOnly vs g) (hq : ∃ G F env k us k', SR K Ps G O F H σ env k ∧ ms env k = some (us, k') ∧ ∃ tot kf, dcL g mt mk me (wipeE env vs) us [] k' = some (tot, kf) ∧
      ∀ D H' F' kvs, Base G F' H' kf → Stp G F H F' H' → ¬ F' D → D ≠ G.t → G.H0 D = none → (∀ j, j ∈ O → ∀ u, env[j]? = some (some u) → σ[j]? ≠ some (some (.ref D))) → (∀ z w, ¬ F z → z ≠ G.t → G.H0 z = none → H z = some w → (∀ ps, w ≠ .tbl ps) → z ≠ D) → H' D = some (.dK kvs) → RepK G.t G.sc F' H' kvs tot → Q (.ref D) H') :
    tDc (tMI K Ps O ms) (tMG O vs g) (tMB K Ps O mt) (tM K Ps O mk) (tM K Ps O me) vs σ H Q := by
  obtain ⟨G, F, env, k, us, k', S, hm, tot, kf, hl, q⟩ := hq
  refine ⟨G, F, env, k, us, k', S, hm, fun J H1 F1 S1 m1 it D hD => ?_⟩
  have Sw := S1.wipe vs
  obtain ⟨B0, _, nF0, nt, n0⟩ := S1.b.allocO (p := D) (o := .dK []) hD
  have st0 := stp_allocO (p := D) (o := .dK []) S1.b hD
  refine ⟨fun i n H2 => ∃ F2 k2 accV accU, i + n = us.length ∧ Base G F2 H2 k2 ∧ Stp G F1 H1 F2 H2 ∧ H2 D = some (.dK accV) ∧ ¬ F2 D ∧ RepK G.t G.sc F2 H2 accV accU ∧ dcL g mt mk me (wipeE env vs) (us.drop i) accU k2 = some (tot, kf),
    ⟨us.length, F1, k', [], [], by omega, B0, st0, upd_same, nF0, .nil, by simpa using hl⟩, ?_⟩
  rintro i n H2 ⟨F2, k2, accV, accU, hin, B2, st2, hD2, nF2, r2, hl2⟩
  cases n with
  | zero =>
    have hi : i = us.length := by omega
    rw [List.drop_of_length_le (by omega)] at hl2
    cases hl2
    have hH : ∀ j, j ∈ O → ∀ u, env[j]? = some (some u) → σ[j]? ≠ some (some (.ref D)) := fun j hj u e z => S1.own_ne hD j hj u e z
    exact .inl ⟨by rw [hi]; exact it.stop F2 H2 st2.mo, q D H2 F2 accV B2 (m1.trans st2) nF2 nt n0 hH (fun z w h1 h2 h3 h4 h5 => ne_of_none (m1.ow z w h1 h2 h3 h4 h5).2 hD) hD2 r2⟩
  | succ n =>
    have hi : i < us.length := by omega
    refine .inr ⟨it.go F2 H2 st2.mo i hi, fun H' => ∃ F' k3 accV accU, Base G F' H' k3 ∧ Stp G F1 H1 F' H' ∧ H' D = some (.dK accV) ∧ ¬ F' D ∧ RepK G.t G.sc F' H' accV accU ∧ dcL g mt mk me (wipeE env vs) (us.drop (i + 1)) accU k3 = some (tot, kf), ?_, ?_⟩
    · rintro H' ⟨F', k3, aV, aU, b1, b2, b3, b4, b5, b6⟩
      exact ⟨n, Nat.lt_succ_self _, F', k3, aV, aU, by omega, b1, b2, b3, b4, b5, b6⟩
    · intro x H3 hy
      obtain ⟨F3, u, B3, st3, eu, r3⟩ := it.yld F2 H2 i x H3 k2 B2 st2.mo hi hy
      have hd : us.drop i = u :: us.drop (i + 1) := by
        rw [List.drop_eq_getElem_cons hi]
        congr 1
        rw [List.getElem?_eq_getElem hi] at eu
        exact Option.some.inj eu
      rw [hd] at hl2
      obtain ⟨env3, e3, hl2⟩ := ob hl2
      obtain ⟨⟨bt, kt⟩, et, hl2⟩ := ob hl2
      obtain ⟨nF3, hD3⟩ := st3.ow D _ nF2 nt n0 hD2 (by intro ps z; cases z)
      refine ⟨K, Ps, G, F3, wipeE env vs, env3, k2, u, Sw.step (st2.trans st3) B3, r3, e3, fun σ3 S3 hw3 => ⟨by rw [hw3]; exact wipeL_idem σ vs, ?_⟩⟩
      refine ⟨G, F3, env3, k2, bt, kt, S3, et, fun H4 F4 S4 m4 => ?_⟩
      obtain ⟨nF4, hD4⟩ := m4.ow D _ nF3 nt n0 hD3 (by intro ps z; cases z)
      dsimp only at hl2
      cases bt with
      | false =>
        simp only [Bool.false_eq_true, if_false] at hl2 ⊢
        exact ⟨F4, kt, accV, accU, S4.b, (st2.trans st3).trans m4, hD4, nF4, (r2.mono st3.mo).mono m4.mo, hl2⟩
      | true =>
        simp only [if_true] at hl2 ⊢
        obtain ⟨⟨y, ky⟩, ey, hl2⟩ := ob hl2
        obtain ⟨⟨v, kv⟩, ev, hl2⟩ := ob hl2
        obtain ⟨key, ekey, hl2⟩ := ob hl2
        split at hl2
        · rename_i hz
          refine ⟨G, F4, env3, kt, y, ky, S4, ey, fun yV H5 F5 S5 m5 r5 => ⟨G, F5, env3, ky, v, kv, S5, ev, fun vV H6 F6 S6 m6 r6 => ?_⟩⟩
          obtain ⟨nF5, hD5⟩ := m5.ow D _ nF4 nt n0 hD4 (by intro ps z; cases z)
          obtain ⟨nF6, hD6⟩ := m6.ow D _ nF5 nt n0 hD5 (by intro ps z; cases z)
          have hlen : accV.length < sizeLine := by rw [r2.length]; exact small1000 (Nat.le_of_lt hz)
          refine ⟨accV, key, hD6, r5.key ekey, hlen, ?_⟩
          obtain ⟨B7, mo7⟩ := S6.b.write (o := .dK (putK accV key vV)) hD6 (by intro ps z; cases z) nF6 nt n0
          have st6 : Stp G F1 H1 F6 H6 := (((st2.trans st3).trans m4).trans m5).trans m6
          refine ⟨F6, kv, putK accV key vV, kput accU key v, B7, ⟨st6.mo.trans mo7, fun z w h1 h2 h3 h4 h5 => ?_⟩, upd_same, nF6, ?_, hl2⟩
          · obtain ⟨g1, g2⟩ := st6.ow z w h1 h2 h3 h4 h5
            have ne : z ≠ D := ne_of_none h4 hD
            exact ⟨g1, by rw [upd_ne ne]; exact g2⟩
          · exact (((((r2.mono st3.mo).mono m4.mo).mono m5.mo).mono m6.mo).put r6 key).mono mo7
        · cases hl2
theorem pev_dc {kx vx : Expr} (hc : X.calm = true) (hN : X.N.Nodup) (hi : PIV X Ps O tg iter ms) (ok : BlkOk X.N X.env.scope scope own) (hv : vs = own.map (·.2)) (go : GOnly vs g)
    (hg : ∀ (s : Shared) (H : Hp) (C : Addr) (cl : List (Str × Addr)) (fp : List Addr), PGV (X.blk s H scope (compEnvC scope cl C X.env) fp) O vs tg g) (ht : ∀ (s : Shared) (H : Hp) (C : Addr) (cl : List (Str × Addr)) (fp : List Addr), PTsV (X.blk s H scope (compEnvC scope cl C X.env) fp) Ps O ifs mt)
    (hk : ∀ (s : Shared) (H : Hp) (C : Addr) (cl : List (Str × Addr)) (fp : List Addr), PEV (X.blk s H scope (compEnvC scope cl C X.env) fp) Ps O kx mk) (he : ∀ (s : Shared) (H : Hp) (C : Addr) (cl : List (Str × Addr)) (fp : List Addr), PEV (X.blk s H scope (compEnvC scope cl C X.env) fp) Ps O vx me) (hs : ∀ x, foldedSetIterable iter X.env x = pure x := by intro _; rfl) :
    PEV X Ps O (.DictComp kx vx [⟨tg, iter, ifs, 0⟩] scope pos) (eDc ms vs g mt mk me) := by
  subst hv
  refine ⟨impE (pe_dc (g := tMG O (own.map (·.2)) g) (tt := tMB X.K Ps O mt) (te := tM X.K Ps O mk) (tv := tM X.K Ps O me) hc hN hi.pi ok (fun s H C cl fp => (hg s H C cl fp).pg) (fun s H C cl fp => (ht s H C cl fp).pt) (fun s H C cl fp => (hk s H C cl fp).pe) (fun s H C cl fp => (he s H C cl fp).pe) hs) fun σ H Q hq => ?_⟩
  obtain ⟨G, F, env, k, u, k', S, hm, q⟩ := hq
  obtain ⟨⟨us, k1⟩, e1, hm⟩ := ob hm
  obtain ⟨⟨tot, kf⟩, e2, hm⟩ := ob hm
  cases hm
  refine dc_imp go ⟨G, F, env, k, us, k1, S, e1, tot, _, e2, fun D H' F' kvs B st nF nt n0 _ hfr hD r => ?_⟩
  obtain ⟨B2, mo2⟩ := B.share hD (by intro ps z; cases z) nt n0
  have st2 : Stp G F H (fun a => F' a ∨ a = D) H' := ⟨st.mo.trans mo2, fun z w h1 h2 h3 h4 h5 => by
    obtain ⟨g1, g2⟩ := st.ow z w h1 h2 h3 h4 h5
    refine ⟨fun q => ?_, g2⟩
    rcases q with q | q
    · exact g1 q
    · exact hfr z w h1 h2 h3 h4 h5 q⟩
  exact q _ H' _ (S.step st2 B2) st2 (.dct (.inr rfl) (.inl hD) (r.mono mo2))
end
end UM
set_option linter.all false
set_option Elab.async false
set_option maxRecDepth 100000
set_option maxHeartbeats 1000000
namespace UM
open PySem L2
theorem reps_one {t sc : Addr} {F : Addr → Prop} {H : Hp} {vs : List V} {u : U} (r : Reps t sc F H vs [u]) : ∃ v, vs = [v] ∧ Rep t sc F H v u := by
  cases r with
  | cons h r => cases r; exact ⟨_, rfl, h⟩
def eLen (ns : List Int) (a : EM) : EM := fun env k => (a env k).bind fun x => match x.1 with
  | .town => some (.int x.2, x.2)
  | .scr => some (.int ns.length, x.2)
  | u => (fLen [u]).bind fun r => some (r, x.2)
def eIdx (ns : List Int) (a b : EM) : EM := fun env k => (a env k).bind fun x => (b env x.2).bind fun y => match x.1, y.1 with
  | .scr, .int i => (atI ns i).bind fun r => some (.int r, y.2)
  | u, w => (fIdx u w).bind fun r => some (r, y.2)
def truU (ns : List Int) : U → Option Bool
  | .non => some false
  | .bl b => some b
  | .int i => some (i != 0)
  | .str z => if z.length ≤ 1000 then some ((z.length : Int) != 0) else none
  | .tup us => some (!us.isEmpty)
  | .lst us => some (!us.isEmpty)
  | .scr => some (!ns.isEmpty)
  | _ => none
def bTru (ns : List Int) (a : EM) : BM := fun env k => (a env k).bind fun x => (truU ns x.1).bind fun b => some (b, x.2)
section
variable {X : Cx} {Ps : Tb} {Ob O O' O1 O2 : List Nat} {a b c : Expr} {es : List Expr} {ma mb mc : EM} {ms : AM} {pos cpos : Pos} {st : Stmt} {sts : List Stmt} {m1 m2 : SM}
theorem atI_map {α β : Type} (f : α → β) (xs : List α) (i : Int) : atI (xs.map f) i = (atI xs i).map f := by
  unfold atI
  rw [List.length_map]
  cases ixN xs.length i with
  | none => rfl
  | some j => simp
theorem pev_len {p : Pos} (hg : Gl X "len") (hm : X.mg "len" = none) (ha : PEV X Ps O a ma) (he : starEach [a] X.env = (false, eval a X.env) :: starEach [] X.env := by rfl) : PEV X Ps O (.Call (.Name "len" p) [a] [] pos) (eLen Ps.ns ma) := by
  refine ⟨impE (pe_callB (es := []) cr_len hg hm (by decide +kernel : bootBuiltins "len" = some (.builtin "len")) (pav_cons ha pav_nil he).pa (by decide) (by decide) he rfl) fun σ H Q hq => ?_⟩
  obtain ⟨G, F, env, k, u, k', S, hm, q⟩ := hq
  obtain ⟨⟨x, k1⟩, h1, hm⟩ := ob hm
  refine ⟨G, F, env, k, [x], k1, S, by simp [aCons, aNil, h1], fun vs H1 F1 S1 m1 r1 => ?_⟩
  have fin : ∀ w, (fLen [x]).bind (fun r => some (r, k1)) = some w → w = (u, k') → (∃ y n, vs = [y] ∧ LenV X.K y H1 n ∧ Q (.int n) H1) ∨ ∃ ad kvs, vs = [V.ref ad] ∧ Rd H1 ad (.dK kvs) ∧ Q (.int kvs.length) H1 := fun w hw e => by
    subst e
    obtain ⟨r, e1, e2⟩ := ob hw
    cases e2
    exact cu_len X.K S1 r1 e1 fun z H2 F2 S2 m2 r2 => q z H2 F2 S2 (m1.trans m2) r2
  cases x with
  | town =>
    cases hm
    obtain ⟨v, rfl, r⟩ := reps_one r1
    cases r
    obtain ⟨l, hl, e⟩ := S1.b.tw
    exact .inl ⟨_, _, rfl, .inl ⟨l, SqL.of hl, rfl⟩, by rw [e]; exact q _ H1 F1 S1 m1 (.int _)⟩
  | scr =>
    cases hm
    obtain ⟨v, rfl, r⟩ := reps_one r1
    cases r
    have hsc := S1.b.sc
    rw [S1.hK, S1.hP] at hsc
    exact .inl ⟨_, _, rfl, .inl ⟨_, hsc, rfl⟩, by rw [List.length_map]; exact q _ H1 F1 S1 m1 (.int _)⟩
  | _ => exact fin _ hm rfl
theorem pev_ix (hu : X.A.units + 1 < cLine) (ha : PEV X Ps O a ma) (hb : PEV X Ps O b mb) (hs : PlainIx b) : PEV X Ps O (.Subscript a b pos) (eIdx Ps.ns ma mb) := by
  refine ⟨impE (orE (pev_idx hu ha hb hs).pe (pe_ix ix_list ha.pe hb.pe hs)) fun σ H Q hq => ?_⟩
  obtain ⟨G, F, env, k, u, k', S, hm, q⟩ := hq
  obtain ⟨⟨x, k1⟩, h1, hm⟩ := ob hm
  obtain ⟨⟨y, k2⟩, h2, hm⟩ := ob hm
  by_cases hc : x = .scr ∧ ∃ i, y = .int i
  · obtain ⟨rfl, i, rfl⟩ := hc
    obtain ⟨r, e1, e2⟩ := ob hm
    cases e2
    refine .inr ⟨G, F, env, k, _, k1, S, h1, fun v H1 F1 S1 m1 r1 => ⟨G, F1, env, k1, _, _, S1, h2, fun w H2 F2 S2 m2 r2 => ?_⟩⟩
    cases r1; cases r2
    have hsc := S2.b.sc
    rw [S2.hK, S2.hP] at hsc
    exact ⟨_, _, i, .int r, rfl, rfl, hsc, by rw [atI_map, e1]; rfl, q _ H2 F2 S2 (m1.trans m2) (.int r)⟩
  · have hm' : (fIdx x y).bind (fun r => some (r, k2)) = some (u, k') := by
      revert hm
      dsimp only
      split
      · exact absurd ⟨rfl, _, rfl⟩ hc
      · exact id
    obtain ⟨r, e1, e2⟩ := ob hm'
    cases e2
    exact .inl ⟨G, F, env, k, u, _, S, by simp [eBin, h1, h2, e1], q⟩
theorem tru_imp {K : PySem.W.Frag} {σ : St} {H : Hp} {Q : Bool → Hp → Prop} (hq : tMB K Ps O (bTru Ps.ns ma) σ H Q) : tM K Ps O ma σ H fun x H' => ∃ k, TruV K x H' k ∧ Q k H' := by
  obtain ⟨G, F, env, k, u, k', S, hm, q⟩ := hq
  obtain ⟨⟨x, k1⟩, h1, hm⟩ := ob hm
  obtain ⟨b0, h2, hm⟩ := ob hm
  cases hm
  refine ⟨G, F, env, k, x, _, S, h1, fun v H1 F1 S1 m1 r1 => ?_⟩
  cases r1 with
  | non => cases h2; exact ⟨_, rfl, q H1 F1 S1 m1⟩
  | bl b => cases h2; exact ⟨_, rfl, q H1 F1 S1 m1⟩
  | int b => cases h2; exact ⟨_, rfl, q H1 F1 S1 m1⟩
  | str z =>
    simp only [truU] at h2
    split at h2
    · rename_i hl
      cases h2
      exact ⟨_, ⟨size1000 hl, rfl⟩, q H1 F1 S1 m1⟩
    · cases h2
  | @tup ad vs us f h r =>
    cases h2
    refine ⟨_, .inr (.inl ⟨vs, SqT.of h, rfl⟩), ?_⟩
    have e : vs.isEmpty = us.isEmpty := by cases r <;> rfl
    rw [e]; exact q H1 F1 S1 m1
  | @lst ad vs us f h r =>
    cases h2
    refine ⟨_, .inl ⟨vs, SqL.of h, rfl⟩, ?_⟩
    have e : vs.isEmpty = us.isEmpty := by cases r <;> rfl
    rw [e]; exact q H1 F1 S1 m1
  | scr =>
    cases h2
    have hsc := S1.b.sc
    rw [S1.hK, S1.hP] at hsc
    refine ⟨_, .inl ⟨_, hsc, rfl⟩, ?_⟩
    have e : (Ps.ns.map V.int).isEmpty = Ps.ns.isEmpty := by cases Ps.ns <;> rfl
    rw [e]; exact q H1 F1 S1 m1
  | _ => cases h2
theorem pbv_tru (ha : PEV X Ps O a ma) (he : ∀ whole, isTrue a X.env whole = (do let v ← whole; standAt a.pos; holding [v] (truthy v)) := by intro _; rfl) : PBV X Ps O a (bTru Ps.ns ma) := ⟨impT (pt_truth ha.pe he) fun σ H Q hq => tru_imp hq⟩
def eTown (i : Nat) (a : EM) : EM := fun env k => match env[i]? with
  | some (some .town) => (a env k).bind fun x => if x.2 < 16000000 then some (.non, x.2 + 1) else none
  | _ => none
theorem pev_town (i : Nat) {x : Str} {px apos : Pos} (hi : i ∉ O) (ha : PEV X Ps O a ma) (hN : X.N[i]? = some x := by rfl) (hvis : Vis X.env.scope x := by first | exact Or.inl rfl | exact Or.inr (Or.inl rfl) | exact Or.inr (Or.inr rfl)) (hd : (x == ("__debug__" : Str)) = false := by decide)
    (hcd : (x == ("__classdict__" : Str)) = false := by decide) (hbase : attributeBase (.Name x px) "append" X.env (eval (.Name x px) X.env) = eval (.Name x px) X.env := by rfl)
    (hfew : ((backTo cpos (starEach [a] X.env)).all (fun x => !x.1) && (backToKw cpos (keywordEach [] X.env)).all (fun x => x.1.isSome) && decide (([a] : List Expr).length + ([] : List Keyword).length + (if ([] : List Keyword).isEmpty then 0 else 1) < 30)) = true := by rfl)
    (hline : (apos.endLine == cpos.line) = true := by rfl) (hs : starEach [a] X.env = (false, eval a X.env) :: starEach [] X.env := by rfl) : PEV X Ps O (.Call (.Attribute (.Name x px) "append" apos) [a] [] cpos) (eTown i ma) := by
  refine ⟨impE (pe_bm (es := []) PySem.F.plainAttrs_list PySem.F.slot_list_append PySem.F.type_list_append mt_append (pv i hN hvis hd hcd) (pav_cons ha pav_nil hs).pa hbase hfew hline hs rfl) fun σ H Q hq => ?_⟩
  obtain ⟨G, F, env, k, u, k', S, hm, q⟩ := hq
  unfold eTown at hm
  split at hm
  · rename_i ee
    obtain ⟨⟨y, k1⟩, h1, hm⟩ := ob hm
    dsimp only at hm
    split at hm
    · rename_i hlt
      cases hm
      obtain ⟨v, s1, r⟩ := S.sl i _ hi ee
      cases r
      obtain ⟨l, hl, _⟩ := S.b.tw
      refine ⟨_, s1, .inl ⟨rfl, l, SqL.of hl⟩, G, F, env, k, [y], k1, S, by simp [aCons, aNil, h1], fun vs H1 F1 S1 m1 r1 => ?_⟩
      obtain ⟨w, rfl, rw'⟩ := reps_one r1
      obtain ⟨l1, hl1, e1⟩ := S1.b.tw
      refine ⟨_, l1, w, rfl, rfl, hl1, by rw [e1, show sizeLine = 16777216 from sizeLine_eq]; omega, ?_⟩
      have st := stp_town S1.b w hl1
      exact q _ _ F1 (S1.step st (S1.b.town w hl1).1) (m1.trans st) .non
    · cases hm
  · cases hm
end
end UM
set_option linter.all false
set_option Elab.async false
set_option maxRecDepth 100000
set_option maxHeartbeats 1000000
namespace UM
open PySem PySem.Spec PyProof.Rows L2
structure BaseT (mg : Str → Option Value) (base : Heap) (tabs : List (Addr × Addr)) : Prop where
  hd : ∀ q ∈ tabs, PySem.W.CodeHd base q.1 q.2
  bm : ∃ (bm : Addr) (ob : Obj), mg "__builtins__" = some (.ref bm) ∧ bm ≠ builtinsNs ∧ base.get? bm = some ob ∧ ob.cls = .type "module" ∧ ob.dict = some builtinsNs ∧ ob.data = .plain
theorem law_callT {P : Program} {w : World} {K : PySem.W.Frag} {mg mb : Str → Option Value} {k : Nat} {fa a : Addr} {fd : FuncData} {x : Str} {sp : Sp} {s₁ : Shared} {vs : List Value} {ns : List Int} {tabs : List (Addr × Addr)}
    (KX : K.In s₁.heap) (hnt : PySem.W.noTabs K = true) (hns : s₁.heap.Ns mainGlobals mg) (hb : s₁.heap.Ns builtinsNs mb) (hbb : ∀ x : Str, x ≠ "__name__" → mb x = bootBuiltins x) (hlim : s₁.heap.NoLimit) (hg : s₁.gens = #[])
    (hT : PySem.W.TabsAt tabs s₁.heap) (hbm : ∃ (bm : Addr) (ob : Obj), mg "__builtins__" = some (.ref bm) ∧ bm ≠ builtinsNs ∧ s₁.heap.get? bm = some ob ∧ ob.cls = .type "module" ∧ ob.dict = some builtinsNs ∧ ob.data = .plain)
    (ha : s₁.heap.get? a = some { cls := .type "list", data := .seq vs.toArray }) (hi : IntsAre vs ns) (hl : ns.length ≤ sizeLine) (hr : Room k callerA)
    (F : ∀ base : Heap, K.In base → base.Ns mainGlobals mg → BaseT mg base tabs → FnOk P w K mg base CX0 k fa fd [x] sp) (hbind : ∀ (s : Shared) (u : Value), BindsTo s fd ⟨[u], []⟩ [(x, u)])
    (hsp : ∀ H : Hp, (∀ q ∈ tabs, H q.2 = some (.tbl #[])) → (∀ ps, H a ≠ some (.tbl ps)) → SqL K H a (ns.map V.int) → sp [.ref a] H (fun v _ => v = .bl true) fun _ _ _ => False) :
    codeAny (model P w) callerA (.call (.ref fa) ⟨[.ref a], []⟩) (fun r s' => r = .ok (.ret (.bool true)) ∧ OldK s₁.heap s'.heap ∧ s'.os = s₁.os ∧ AllBare s'.gens) s₁ := by
  have rv := vals_ints hi
  have lenV := hi.length
  have tab_a : ∀ q ∈ tabs, q.2 ≠ a := fun q hq z => by
    have e := (hT q hq).2
    rw [z, ha] at e; cases e
  have core : ∀ H : Hp, SqL K H a (ns.map V.int) → HOk P w H s₁.heap → (∀ q ∈ tabs, H q.2 = some (.tbl #[])) → (∀ b, H b ≠ none → b = a ∨ ∃ q ∈ tabs, b = q.2) → (H a = none ∨ (K.lookup a = none ∧ ∃ o xs, H a = some (.frz o (.lst xs)))) →
      codeAny (model P w) callerA (.call (.ref fa) ⟨[.ref a], []⟩) (fun r s' => r = .ok (.ret (.bool true)) ∧ OldK s₁.heap s'.heap ∧ s'.os = s₁.os ∧ AllBare s'.gens) s₁ := by
    intro H hS hok hP hA hK
    have base_of : ∀ {b : Addr} {o : Obj}, s₁.heap.get? b = some o → H b = none → (hidT s₁.heap H).get? b = some o := fun e n => hidT_get e n
    have free_of : ∀ {b : Addr} {o : Obj}, s₁.heap.get? b = some o → (∀ its n, o.data ≠ .seq its n) → o.cls ≠ .none → H b = none := fun {b o} e d c => by
      cases q : H b with
      | none => rfl
      | some u =>
        rcases hA b (by rw [q]; simp) with e' | ⟨q', hq, e'⟩
        · subst e'
          rw [ha] at e; cases e
          exact absurd rfl (d _ _)
        · subst e'
          have e2 := (hT q' hq).2
          rw [e] at e2; cases e2
          exact absurd rfl c
    have nsK : ∀ {b : Addr} {m : Str → Option Value}, s₁.heap.Ns b m → (hidT s₁.heap H).Ns b m := fun {b m} ⟨o, es, ep, e, d, r⟩ => by
      refine ⟨o, es, ep, base_of e ?_, d, r⟩
      cases q : H b with
      | none => rfl
      | some u =>
        rcases hA b (by rw [q]; simp) with e' | ⟨q', hq, e'⟩
        · subst e'; rw [ha] at e; cases e; cases (show Data.seq vs.toArray _ = Data.dict es ep from d)
        · subst e'; have e2 := (hT q' hq).2; rw [e] at e2; cases e2; cases (show Data.fields _ = Data.dict es ep from d)
    have hKb : K.In (hidT s₁.heap H) := fun b o e => base_of (KX b o e) (by
      cases q : H b with
      | none => rfl
      | some u =>
        rcases hA b (by rw [q]; simp) with e' | ⟨q', hq, e'⟩
        · subst e'
          rcases hK with z | ⟨z, _⟩
          · rw [q] at z; cases z
          · rw [z] at e; cases e
        · subst e'
          have e2 := KX _ _ e
          rw [(hT q' hq).2] at e2
          cases e2
          have h2 := List.all_eq_true.mp hnt _ (PySem.W.mem_of_lookupK e)
          exact absurd (show false = true from h2) Bool.false_ne_true)
    have hM : Mod K mg (hidT s₁.heap H) := ⟨hKb, nsK hns, ⟨mb, nsK hb, hbb⟩, let ⟨mc, h1, h2⟩ := hlim; ⟨mc, nsK h1, h2⟩⟩
    have hBT : BaseT mg (hidT s₁.heap H) tabs := ⟨fun q hq => by
      obtain ⟨o, vs', file, tf, flags, tg, inF, text, tt, e1, r1, r2, r⟩ := (hT q hq).1
      exact ⟨o, vs', file, tf, flags, tg, inF, text, tt, base_of e1 (free_of e1 (fun its n z => by rw [r2] at z; cases z) (fun z => by rw [r1] at z; cases z)), r1, r2, r⟩, by
      obtain ⟨bm, ob, h1, h2, h3, h4, h5, h6⟩ := hbm
      exact ⟨bm, ob, h1, h2, base_of h3 (free_of h3 (fun its n z => by rw [h6] at z; cases z) (fun z => by rw [h4] at z; cases z)), h4, h5, h6⟩⟩
    have e0 : Env0 P w K mg (hidT s₁.heap H) callerA [] s₁ H := ⟨rfl, hM, fun b o e => of_hidT e, Nat.le_of_eq (hidT_size _ _), trivial, fun b hb => absurd (show b ∈ ([] : List Addr) from hb) (by simp), hok, .of_eq hg⟩
    have hna : ∀ ps, H a ≠ some (.tbl ps) := fun ps z => by
      rcases hK with q | ⟨_, o, xs, q⟩ <;> rw [q] at z <;> cases z
    refine codeAny_mono ((F _ hKb (nsK hns) hBT).run callerA [] s₁ H ⟨[.ref a], []⟩ [.ref a] [.ref a] _ _ hr e0 (hbind s₁ (.ref a)) (.cons rfl .nil) (hsp H hP hna hS)) fun r s' h => ?_
    cases r with
    | error e => exact False.elim h
    | ok fl =>
      cases fl with
      | next => exact False.elim h
      | brk => exact False.elim h
      | cont => exact False.elim h
      | ret u =>
        obtain ⟨v, H', os, bare, un, hok', r', q⟩ := h
        have q' : v = .bl true := q
        subst q'
        obtain rfl : u = Value.bool true := r'
        have keepN : ∀ b o, s₁.heap.get? b = some o → (∀ q' ∈ tabs, b ≠ q'.2) → s'.heap.get? b = some o := fun b o e hb => by
          cases q : H b with
          | none => exact un.keep b o e q (by intro z; exact absurd (show b ∈ ([] : List Addr) from z) (by simp)) (by simp)
          | some u =>
            rcases hA b (by rw [q]; simp) with e' | ⟨q', hq, e'⟩
            · subst e'
              rcases hK with z | ⟨_, ob, xs, z⟩
              · rw [q] at z; cases z
              · have z2 := un.frzs b ob _ z
                obtain ⟨e1, _⟩ := hok b _ z
                obtain ⟨e2, _⟩ := hok' b _ z2
                rw [e] at e1; cases e1
                exact e2
            · exact absurd e' (hb q' hq)
        refine ⟨rfl, ⟨fun b o e => ?_, fun b o e => ?_⟩, os, bare⟩
        · by_cases hb : ∃ q' ∈ tabs, b = q'.2
          · obtain ⟨q', hq, rfl⟩ := hb
            obtain ⟨more, z2⟩ := un.tbls _ _ (hP q' hq)
            have e2 : s'.heap.get? q'.2 = some { cls := .none, data := .fields (#[] ++ more) } := hok' _ _ z2
            have hTq := hT q' hq
            rw [hTq.2] at e; cases e
            exact .inr (.inl ⟨(hTq.1.tab hTq.2).isCodeTable, rfl, #[], more, rfl, e2⟩)
          · exact .inl (keepN b o e fun q' hq z => hb ⟨q', hq, z⟩)
        · by_cases hb : ∃ q' ∈ tabs, b = q'.2
          · obtain ⟨q', hq, rfl⟩ := hb
            obtain ⟨more, z2⟩ := un.tbls _ _ (hP q' hq)
            exact ⟨_, hok' _ _ z2⟩
          · exact ⟨o, keepN b o e fun q' hq z => hb ⟨q', hq, z⟩⟩
  have dec : ∀ b, (∃ q ∈ tabs, b = q.2) ∨ ¬ ∃ q ∈ tabs, b = q.2 := fun b => Classical.em _
  have tblOk : ∀ (H : Hp) (q : Addr × Addr), q ∈ tabs → ObjOk P w H s₁.heap q.2 (.tbl #[]) := fun H q hq => (hT q hq).2
  cases hk : K.lookup a with
  | some o =>
    have e := KX a o hk
    rw [ha] at e
    cases e
    classical
    refine core (fun b => if ∃ q ∈ tabs, b = q.2 then some (.tbl #[]) else none) (.inr ⟨_, vs.toArray, _, hk, rfl, rfl, rfl, by rw [List.size_toArray, lenV]; exact hl, by simpa using rv⟩) (fun b u z => ?_) (fun q hq => if_pos ⟨q, hq, rfl⟩) (fun b z => ?_) (.inl (if_neg fun ⟨q, hq, e⟩ => tab_a q hq e.symm))
    · by_cases hb : ∃ q ∈ tabs, b = q.2
      · have z' := (if_pos hb).symm.trans z
        cases z'
        obtain ⟨q, hq, rfl⟩ := hb
        exact tblOk _ q hq
      · have z' := (if_neg hb).symm.trans z
        cases z'
    · by_cases hb : ∃ q ∈ tabs, b = q.2
      · exact .inr hb
      · exact absurd (if_neg hb) z
  | none =>
    classical
    refine core (fun b => if b = a then some (.frz { cls := .type "list", data := .seq vs.toArray } (.lst (ns.map V.int))) else if ∃ q ∈ tabs, b = q.2 then some (.tbl #[]) else none) (.inl (.inr ⟨{ cls := .type "list", data := .seq vs.toArray }, if_pos rfl⟩)) (fun b u z => ?_) (fun q hq => (if_neg (tab_a q hq)).trans (if_pos ⟨q, hq, rfl⟩)) (fun b z => ?_) (.inr ⟨hk, _, _, if_pos rfl⟩)
    · by_cases hb : b = a
      · have z' := (if_pos hb).symm.trans z
        cases z'
        subst hb
        exact ⟨ha, by rw [List.length_map]; exact hl, vs, _, rv, ha⟩
      · have z' := (if_neg hb).symm.trans z
        by_cases hb2 : ∃ q ∈ tabs, b = q.2
        · have z2 := (if_pos hb2).symm.trans z'
          cases z2
          obtain ⟨q, hq, rfl⟩ := hb2
          exact tblOk _ q hq
        · have z2 := (if_neg hb2).symm.trans z'
          cases z2
    · by_cases hb : b = a
      · exact .inl hb
      · by_cases hb2 : ∃ q ∈ tabs, b = q.2
        · exact .inr hb2
        · exact absurd ((if_neg hb).trans (if_neg hb2)) z
def spLaw (K : PySem.W.Frag) (Ps : Tb) : Sp := fun vs H Q _ => ∃ a, vs = [.ref a] ∧ SqL K H a (Ps.ns.map V.int) ∧ (∀ P ∈ Ps.ps, H P = some (.tbl #[])) ∧ (∀ ps, H a ≠ some (.tbl ps)) ∧ ∀ H', Q (.bl true) H'
theorem walkT {l : PySem.W.OpenLaw} {n k : Nat} {q : Program} {loose : List Str} {XP : (Str → Option Value) → Heap → Prop} {YP : World → Heap → Prop} {d : DefRec} {K : Params → PySem.W.Frag} {x : Str}
    (hn : l.most = some n) (hn2 : n ≤ sizeLine) (hdf : d.params.defaults = []) (hr : Room k callerA)
    (hY : ∀ (w : World) (h : Heap), YP w h → (K w.params).In h)
    (F : ∀ (w : World) (mg : Str → Option Value) (fa : Addr) (h : Heap) (ns : List Int), ns.length ≤ n → (K w.params).In h → h.Ns mainGlobals mg → mg d.name = some (.ref fa) →
      ∃ (fd : FuncData) (tabs : List (Addr × Addr)), (∀ (s : Shared) (u : Value), BindsTo s fd ⟨[u], []⟩ [(x, u)]) ∧ PySem.W.noTabs (K w.params) = true ∧ (∀ p ∈ tabs, ∃ y d', (recsOf q).find? (fun e => e.name == y) = some d' ∧ PySem.W.tabIn (K w.params) y = some p) ∧
        ∀ base : Heap, (K w.params).In base → base.Ns mainGlobals mg → BaseT mg base tabs → FnOk l.prog w (K w.params) mg base CX0 k fa fd [x] (spLaw (K w.params) ⟨tabs.map (·.2), ns⟩)) :
    PySem.W.WalkO q loose XP YP l.row.toRowW d [] (fun f vs => PySem.call f vs) := by
  refine Att.attach_call hn hdf fun w s₀ s₁ mg mb fa o pm cd doc a vs ns G Y ho hd hcd hmg hobj hints hlen hg => ?_
  have KX := hY w _ Y
  obtain ⟨fd, tabs, hb, hnt, htb, hF⟩ := F w mg fa _ ns hlen KX G.T.g hmg
  have hT : PySem.W.TabsAt tabs s₁.heap := fun p hp => by
    obtain ⟨y, d', e1, e2⟩ := htb p hp
    exact PySem.W.tab_of (c := p.1) (P := p.2) G.T KX e1 e2
  exact law_callT KX hnt G.T.g G.T.b G.T.builtins G.T.nolimit hg hT G.T.bmain hobj hints (Nat.le_trans hlen hn2) hr hF hb fun H hP hna hS => ⟨a, rfl, hS, fun P hP' => by
    obtain ⟨p, hp, rfl⟩ := List.mem_map.mp hP'
    exact hP p hp, hna, fun _ => rfl⟩
section
variable {P : Program} {w : World} {K : PySem.W.Frag} {mg : Str → Option Value} {base : Heap} {Ps : Tb}
theorem fn_MC {x qual : Str} {st : Stmt} {f c : Addr} {fd : FuncData} {N ps : List Str} {k : Nat} {m : SM} {O' : List Nat} (Fn : Fun K x qual st f fd) (hcode : fd.code = .ref c) (S : FnScope N ps (defScope st))
    (hb : ∀ (A : Around) (outer : List Env) (s : Shared) (H : Hp) (E : XK), Room k (A.deeper (PyProof.Rows.envOfC qual (defScope st) s.heap.objs.size f (.ref c))) →
      PSsV (cxOf CX0 P w K mg base N qual (defScope st) f (.ref c) A outer s H E).nox Ps [] [] O' (defBody st) m) :
    FnOk P w K mg base CX0 (k + 1) f fd ps (spM K Ps ps.length (runM N.length m)) := by
  obtain ⟨oc, od, kV, doc, pm, an, cdv, ct, osl, rfl, lk, hcd⟩ := Fn.ex
  have ec : cdv = .ref c := hcode
  subst ec
  refine fn_of lk hcd S (fun vs H Q E h => h.1) fun A outer s H vs Q E hr h => ?_
  obtain ⟨hl, G, F, us, k0, u, k', hK, hP, h0, hF, B, r, hm, q⟩ := h
  refine ⟨_, PSs.nox (hb A outer s H E hr).ps, ?_⟩
  unfold runM at hm
  cases e : m (us.map some ++ List.replicate (N.length - us.length) none) k0 with
  | none => rw [e] at hm; cases hm
  | some c =>
    rw [e] at hm
    obtain ⟨c, k1⟩ := c
    refine ⟨G, F, _, k0, c, k1, SR.start N hK hP B r, e, ?_⟩
    cases c with
    | nx env => cases hm; exact fun σ' H' F' S' mo => q _ H' F' S'.b mo .non
    | rt u' => cases hm; exact fun v H' F' B' mo r' => q v H' F' B' mo r'
    | bk env => cases hm
    | ct env => cases hm
theorem code_of {x : Str} {f c Q : Addr} {fd : FuncData} {oc : Value} {od : Option Addr} {sl : Array (Option Value)} (e1 : PySem.W.nsIn K mainGlobals x = some (some (.ref f))) (e2 : K.lookup f = some ⟨oc, od, .func fd, sl⟩) (ht : PySem.W.tabIn K x = some (c, Q)) : fd.code = .ref c := by
  unfold PySem.W.tabIn at ht
  rw [e1] at ht
  dsimp only at ht
  rw [e2] at ht
  dsimp only at ht
  split at ht
  · rename_i c' hc
    split at ht
    · split at ht
      · cases ht; exact hc
      · cases ht
    · cases ht
  · cases ht
theorem genCx {qual : Str} {st : Stmt} {f c Q : Addr} {A : Around} {N : List Str} {outer : List Env} {s : Shared} {H : Hp} {E : XK} {tabs : List (Addr × Addr)} (B : BaseT mg base tabs) (h : (c, Q) ∈ tabs) :
    GenCx (cxOf CX0 P w K mg base N qual (defScope st) f (.ref c) A outer s H E).nox c Q := ⟨rfl, B.hd _ h, B.bm⟩
theorem begin_base {a l : Addr} {F : Addr → Prop} {H : Hp} (hs : SqL K H a (Ps.ns.map V.int)) (hal : (a ≠ l ∧ ¬ F a) ∨ ∃ (o : Obj) (its : Array Value) (n : Nat), K.lookup a = some o ∧ o.cls = .type "list" ∧ o.dict = none ∧ o.data = .seq its n ∧ its.size ≤ sizeLine ∧ Vals (Ps.ns.map V.int) its.toList) (hl : H l = some (.lst [])) (hF : ∀ x, F x → ∃ u, H x = some u ∧ ∀ ps, u ≠ .tbl ps) (nF : ¬ F l) (tb : ∀ P ∈ Ps.ps, H P = some (.tbl #[])) :
    Base ⟨l, a, K, Ps, H, F⟩ F H 0 := by
  refine ⟨⟨?_⟩, fun _ h => h, fun _ _ h _ _ _ => h, fun _ h => h, fun _ h => .inl h, hF, nF, ⟨[], hl, rfl⟩, fun P hP => ⟨#[], tb P hP, ?_⟩⟩
  · rcases hs with h | h
    · rcases hal with z | z
      · exact .inl ⟨h, z.1, z.2⟩
      · exact .inr z
    · exact .inr h
  · exact True.intro
end
end UM
set_option linter.all false
set_option Elab.async false
set_option maxRecDepth 100000
set_option maxHeartbeats 1000000
namespace UM
open PySem L2
def fNeg : U → Option U
  | .int i => some (.int (-i))
  | _ => none
section
variable {X : Cx} {Ps : Tb} {O : List Nat} {a : Expr} {ma : EM} {pos : Pos}
theorem pev_neg (ha : PEV X Ps O a ma) : PEV X Ps O (.UnaryOp .USub a pos) (eUn fNeg ma) :=
  ⟨impE (pe_un un_neg ha.pe) fun σ H Q ⟨G, F, env, k, u, k', S, hm, q⟩ => by
    obtain ⟨⟨x, k1⟩, h1, hm⟩ := ob hm
    obtain ⟨u', h3, hm⟩ := ob hm
    cases hm
    refine ⟨G, F, env, k, x, k1, S, h1, fun v H1 F1 S1 m1 r1 => ?_⟩
    cases x with
    | int i => cases h3; cases r1; exact ⟨_, rfl, q _ H1 F1 S1 m1 (.int _)⟩
    | _ => cases h3⟩
end
end UM
namespace UM
theorem oM {O O' : List Nat} {i : Nat} (h : (O'.all (fun j => O.contains j && j != i) && O.all (fun j => O'.contains j || j == i)) = true) : ∀ j, j ∈ O' ↔ (j ∈ O ∧ j ≠ i) := by
  simp only [Bool.and_eq_true, List.all_eq_true, Bool.or_eq_true, List.contains_iff_mem, bne_iff_ne, beq_iff_eq] at h
  intro j
  refine ⟨fun hj => h.1 j hj, fun ⟨hj, hn⟩ => (h.2 j hj).elim id fun z => absurd z hn⟩
theorem oP {O O' : List Nat} {i : Nat} (h : (O'.all (fun j => O.contains j || j == i) && (O.all (fun j => O'.contains j) && O'.contains i)) = true) : ∀ j, j ∈ O' ↔ (j ∈ O ∨ j = i) := by
  simp only [Bool.and_eq_true, List.all_eq_true, Bool.or_eq_true, List.contains_iff_mem, beq_iff_eq] at h
  intro j
  refine ⟨fun hj => h.1 j hj, fun hj => hj.elim (fun z => h.2.1 j z) fun z => z ▸ h.2.2⟩
end UM
namespace UM
open PySem PySem.Spec PyProof.Rows L2
theorem tabIn_of {K : PySem.W.Frag} {x : Str} {f C Q : Addr} {fd : FuncData} {oc oc' : Value} {od od' : Option Addr} {sl sl' : Array (Option Value)} {vs : Array Value} (e1 : PySem.W.nsIn K mainGlobals x = some (some (.ref f))) (e2 : K.lookup f = some ⟨oc, od, .func fd, sl⟩) (e3 : fd.code = .ref C)
    (e4 : K.lookup C = some ⟨oc', od', .fields vs, sl'⟩) (e5 : vs[11]? = some (.ref Q)) : PySem.W.tabIn K x = some (C, Q) := by
  unfold PySem.W.tabIn
  rw [e1]
  dsimp only
  rw [e2]
  dsimp only
  rw [e3]
  dsimp only
  rw [e4]
  dsimp only
  rw [e5]
end UM
set_option linter.all false
set_option Elab.async false
set_option maxRecDepth 100000
set_option maxHeartbeats 1000000
namespace UM
open PySem L2
inductive Pl : Nat → U → Prop
  | non (n : Nat) : Pl n .non
  | bl (n : Nat) (b : Bool) : Pl n (.bl b)
  | int (n : Nat) (i : Int) : Pl n (.int i)
  | str (n : Nat) {x : Str} (h : PyData.strOk x = true) : Pl n (.str x)
  | tup {n : Nat} {us : List U} (h : ∀ u ∈ us, Pl n u) : Pl (n + 1) (.tup us)
  | lst {n : Nat} {us : List U} (h : ∀ u ∈ us, Pl n u) : Pl (n + 1) (.lst us)
theorem all_sh {n : Nat} : ∀ {us : List U}, (∀ u ∈ us, (toD u).canLay0 = true ∧ (toD u).depth ≤ n) → PyData.canLayAll0 (toDs us) = true ∧ PyData.depthAll (toDs us) ≤ n
  | [], _ => ⟨rfl, Nat.zero_le _⟩
  | u :: us, h => by
    obtain ⟨h1, h2⟩ := h u List.mem_cons_self
    obtain ⟨h3, h4⟩ := all_sh (us := us) fun x hx => h x (List.mem_cons_of_mem _ hx)
    refine ⟨?_, ?_⟩
    · simp only [toDs, PyData.canLayAll0, h1, h3, Bool.and_self]
    · simp only [toDs, PyData.depthAll]; omega
theorem Pl.sh {n : Nat} {u : U} (h : Pl n u) : (toD u).canLay0 = true ∧ (toD u).depth ≤ n := by
  induction h with
  | non n => exact ⟨rfl, Nat.zero_le _⟩
  | bl n b => exact ⟨rfl, Nat.zero_le _⟩
  | int n i => exact ⟨rfl, Nat.zero_le _⟩
  | str n h => exact ⟨by simpa only [toD, PyData.canLay0] using h, Nat.zero_le _⟩
  | @tup n us h ih =>
    obtain ⟨h1, h2⟩ := all_sh ih
    exact ⟨by simpa only [toD, PyData.canLay0] using h1, by simp only [toD, PyData.depth]; omega⟩
  | @lst n us h ih =>
    obtain ⟨h1, h2⟩ := all_sh ih
    exact ⟨by simpa only [toD, PyData.canLay0] using h1, by simp only [toD, PyData.depth]; omega⟩
theorem Pl.shaped {n : Nat} {u : U} (h : Pl n u) (hn : n ≤ 64) : SeqAt.shaped (toD u) = true := by
  obtain ⟨h1, h2⟩ := h.sh
  unfold SeqAt.shaped
  rw [h1, Bool.true_and, decide_eq_true_eq]
  omega
theorem Pl.up {n : Nat} {u : U} (h : Pl n u) : ∀ {m : Nat}, n ≤ m → Pl m u := by
  induction h with
  | non n => intro m _; exact .non m
  | bl n b => intro m _; exact .bl m b
  | int n b => intro m _; exact .int m b
  | str n h => intro m _; exact .str m h
  | @tup n us h ih =>
    intro m hm
    cases m with
    | zero => omega
    | succ m => exact .tup fun u hu => ih u hu (by omega)
  | @lst n us h ih =>
    intro m hm
    cases m with
    | zero => omega
    | succ m => exact .lst fun u hu => ih u hu (by omega)
theorem fNe_self {n : Nat} {u : U} (h : Pl n u) (hn : n ≤ 64) : fNe u u = some (.bl false) := by
  have hs := h.shaped hn
  unfold fNe
  rw [if_pos ⟨hs, hs⟩, PySem.SeqAt.eqv_refl _ (PySem.SeqAt.canLay_of_shaped hs)]
  rfl
theorem shaped_int (i : Int) : SeqAt.shaped (.int i) = true := rfl
theorem fNe_int (i j : Int) : fNe (.int i) (.int j) = some (.bl (!(i == j))) := by
  show (if SeqAt.shaped (.int i) = true ∧ SeqAt.shaped (.int j) = true then some (U.bl (!PyData.eqv (.int i) (.int j))) else none) = _
  rw [if_pos ⟨shaped_int i, shaped_int j⟩]
  simp [PyData.eqv]
theorem fEq_int (i j : Int) : fEq (.int i) (.int j) = some (.bl (i == j)) := by
  show (if SeqAt.shaped (.int i) = true ∧ SeqAt.shaped (.int j) = true then some (U.bl (PyData.eqv (.int i) (.int j))) else none) = _
  rw [if_pos ⟨shaped_int i, shaped_int j⟩]
  simp [PyData.eqv]
abbrev C8 : List Str := ["a", "b", "c", "d", "e", "f", "g", "h"]
theorem c8_nodup : C8.Nodup := by decide +kernel
theorem c8_rise : C8.Pairwise (fun a b => leS a b = true) := by decide +kernel
theorem c8_ok : ∀ c ∈ C8, PyData.strOk c = true := by decide +kernel
def co (d : List (Str × Int)) (c : Str) : Int := ((d.find? fun p => decide (p.1 = c)).map (·.2)).getD 0
def keysD (d : List (Str × Int)) : List Str := d.map (·.1)
def emb (d : List (Str × Int)) : List (Key × U) := d.map fun p => (.inr p.1, .int p.2)
def encT (ts : List (Str × Int)) : List U := ts.map fun p => .tup [.str p.1, .int p.2]
def nf (φ : Str → Int) : List (Str × Int) := (C8.filter fun c => φ c != 0).map fun c => (c, φ c)
def E (n : Int) (φ : Str → Int) : U := .tup [.int n, .tup (encT (nf φ))]
theorem co_nil (c : Str) : co [] c = 0 := rfl
theorem co_cons (p : Str × Int) (d : List (Str × Int)) (c : Str) : co (p :: d) c = if p.1 = c then p.2 else co d c := by
  unfold co
  rw [List.find?_cons]
  by_cases h : p.1 = c
  · simp [h]
  · simp [h]
theorem co_out {d : List (Str × Int)} {c : Str} (h : c ∉ keysD d) : co d c = 0 := by
  induction d with
  | nil => rfl
  | cons p d ih =>
    rw [co_cons, if_neg (fun e => h (by rw [← e]; exact List.mem_cons_self)), ih fun z => h (List.mem_cons_of_mem _ z)]
theorem nf_ext {φ ψ : Str → Int} (h : ∀ c ∈ C8, φ c = ψ c) : nf φ = nf ψ := by
  unfold nf
  have e : C8.filter (fun c => φ c != 0) = C8.filter (fun c => ψ c != 0) := List.filter_congr fun c hc => by rw [h c hc]
  rw [e]
  exact List.map_congr_left fun c hc => by rw [h c ((List.mem_filter.mp hc).1)]
theorem E_ext {a b : Int} {φ ψ : Str → Int} (h0 : a = b) (h : ∀ c ∈ C8, φ c = ψ c) : E a φ = E b ψ := by
  unfold E
  rw [h0, nf_ext h]
theorem nf_keys (φ : Str → Int) : keysD (nf φ) = C8.filter fun c => φ c != 0 := by
  unfold keysD nf
  rw [List.map_map]
  exact List.map_id' _
theorem nf_nodup (φ : Str → Int) : (keysD (nf φ)).Nodup := by rw [nf_keys]; exact c8_nodup.filter _
theorem nf_sub (φ : Str → Int) : ∀ c ∈ keysD (nf φ), c ∈ C8 := fun c hc => by rw [nf_keys] at hc; exact (List.mem_filter.mp hc).1
theorem co_map {φ : Str → Int} : ∀ {l : List Str} {c : Str}, c ∈ l → co (l.map fun c => (c, φ c)) c = φ c
  | x :: l, c, h => by
    rw [List.map_cons, co_cons]
    by_cases e : x = c
    · rw [if_pos e, e]
    · rw [if_neg e]
      exact co_map ((List.mem_cons.mp h).resolve_left (Ne.symm e))
theorem co_nf {φ : Str → Int} {c : Str} (hc : c ∈ C8) : co (nf φ) c = φ c := by
  by_cases h : φ c = 0
  · rw [h]
    refine co_out ?_
    rw [nf_keys]
    intro z
    have := (List.mem_filter.mp z).2
    simp [h] at this
  · exact co_map (List.mem_filter.mpr ⟨hc, by simpa using h⟩)
theorem nf_of_sub : ∀ {L : List Str} {ts : List (Str × Int)}, (keysD ts).Sublist L → L.Nodup → (∀ p ∈ ts, p.2 ≠ 0) → (L.filter fun c => co ts c != 0).map (fun c => (c, co ts c)) = ts
  | [], ts, h, _, _ => by
    have : ts = [] := by
      have := List.sublist_nil.mp h
      simpa [keysD] using this
    subst this; rfl
  | c :: L, ts, h, hn, hz => by
    have hcL : c ∉ L := (List.nodup_cons.mp hn).1
    have hnL := (List.nodup_cons.mp hn).2
    cases ts with
    | nil => simp [co_nil]
    | cons p ts =>
      by_cases e : p.1 = c
      · have h' : (keysD ts).Sublist L := by
          have h2 : (c :: keysD ts).Sublist (c :: L) := by rw [← e]; rw [← e] at h; exact h
          exact List.cons_sublist_cons.mp h2
        have key : ∀ x ∈ L, co (p :: ts) x = co ts x := fun x hx => by rw [co_cons, if_neg fun z => hcL (by rw [← e, z]; exact hx)]
        have hp : co (p :: ts) c = p.2 := by rw [co_cons, if_pos e]
        have ih := nf_of_sub h' hnL fun q hq => hz q (List.mem_cons_of_mem _ hq)
        rw [List.filter_cons, if_pos (by rw [hp]; simpa using hz p List.mem_cons_self), List.map_cons, hp]
        rw [List.filter_congr (q := fun c => co ts c != 0) fun x hx => by rw [key x hx]]
        rw [List.map_congr_left (g := fun c => (c, co ts c)) fun x hx => by rw [key x (List.mem_filter.mp hx).1], ih]
        obtain ⟨p1, p2⟩ := p
        cases e; rfl
      · have h' : (keysD (p :: ts)).Sublist L := by
          cases h with
          | cons _ h => exact h
          | cons_cons _ h => exact absurd rfl e
        have hc : c ∉ keysD (p :: ts) := fun z => hcL (h'.subset z)
        rw [List.filter_cons, if_neg (by rw [co_out hc]; simp)]
        exact nf_of_sub h' hnL hz
theorem nf_of {ts : List (Str × Int)} (h : (keysD ts).Sublist C8) (hz : ∀ p ∈ ts, p.2 ≠ 0) : nf (co ts) = ts := nf_of_sub h c8_nodup hz
def sput (d : List (Str × Int)) (c : Str) (v : Int) : List (Str × Int) :=
  if (d.any fun p => decide (p.1 = c)) = true then d.map (fun p => if p.1 = c then (p.1, v) else p) else d ++ [(c, v)]
theorem emb_any (d : List (Str × Int)) (c : Str) : ((emb d).any fun kv => decide (kv.1 = (.inr c : Key))) = d.any fun p => decide (p.1 = c) := by
  unfold emb
  rw [List.any_map]
  congr 1
  funext p
  simp
theorem emb_put (d : List (Str × Int)) (c : Str) (v : Int) : kput (emb d) (.inr c) (.int v) = emb (sput d c v) := by
  unfold kput sput
  rw [emb_any]
  split
  · unfold emb
    rw [List.map_map, List.map_map]
    refine List.map_congr_left fun p _ => ?_
    by_cases h : p.1 = c
    · simp [h]
    · simp [h]
  · simp [emb]
theorem emb_get (d : List (Str × Int)) (c : Str) : kget (emb d) (.inr c) = (d.find? fun p => decide (p.1 = c)).map fun p => U.int p.2 := by
  unfold kget emb
  rw [List.find?_map, Option.map_map]
  congr 1
  · congr 1
    funext p
    simp
theorem emb_getD (d : List (Str × Int)) (c : Str) : (kget (emb d) (.inr c)).getD (.int 0) = .int (co d c) := by
  rw [emb_get]
  unfold co
  cases d.find? fun p => decide (p.1 = c) <;> rfl
theorem emb_get_in {d : List (Str × Int)} {c : Str} (h : c ∈ keysD d) : kget (emb d) (.inr c) = some (.int (co d c)) := by
  rw [emb_get]
  unfold co
  cases e : d.find? fun p => decide (p.1 = c) with
  | none =>
    rw [List.find?_eq_none] at e
    obtain ⟨p, hp, rfl⟩ := List.mem_map.mp h
    exact absurd (by simp) (e p hp)
  | some p => rfl
theorem sput_keys_in {d : List (Str × Int)} {c : Str} {v : Int} (h : c ∈ keysD d) : keysD (sput d c v) = keysD d := by
  unfold sput
  rw [if_pos]
  · unfold keysD
    rw [List.map_map]
    refine List.map_congr_left fun p _ => ?_
    by_cases h : p.1 = c <;> simp [h]
  · obtain ⟨p, hp, rfl⟩ := List.mem_map.mp h
    rw [List.any_eq_true]
    exact ⟨p, hp, by simp⟩
theorem sput_keys_out {d : List (Str × Int)} {c : Str} {v : Int} (h : c ∉ keysD d) : sput d c v = d ++ [(c, v)] := by
  unfold sput
  rw [if_neg]
  rw [List.any_eq_true]
  rintro ⟨p, hp, e⟩
  exact h (by rw [← of_decide_eq_true e]; exact List.mem_map_of_mem hp)
theorem sput_mem {d : List (Str × Int)} {c x : Str} {v : Int} : x ∈ keysD (sput d c v) ↔ x ∈ keysD d ∨ x = c := by
  by_cases h : c ∈ keysD d
  · rw [sput_keys_in h]
    exact ⟨.inl, fun z => z.elim id fun z => z ▸ h⟩
  · rw [sput_keys_out h]
    simp [keysD]
theorem sput_nodup {d : List (Str × Int)} {c : Str} {v : Int} (hd : (keysD d).Nodup) : (keysD (sput d c v)).Nodup := by
  by_cases h : c ∈ keysD d
  · rw [sput_keys_in h]; exact hd
  · rw [sput_keys_out h]
    unfold keysD at *
    rw [List.map_append, List.nodup_append]
    exact ⟨hd, by simp, fun a ha b hb z => h (by simp at hb; rw [← hb, ← z]; exact ha)⟩
theorem co_append_out : ∀ {d : List (Str × Int)} {c : Str} {v : Int}, c ∉ keysD d → ∀ x, co (d ++ [(c, v)]) x = if x = c then v else co d x
  | [], c, v, _, x => by
    rw [List.nil_append, co_cons]
    by_cases h : x = c
    · rw [if_pos h.symm, if_pos h]
    · rw [if_neg (Ne.symm h), if_neg h]
  | p :: d, c, v, h, x => by
    have h1 : p.1 ≠ c := fun z => h (by rw [← z]; exact List.mem_cons_self)
    rw [List.cons_append, co_cons, co_cons, co_append_out (fun z => h (List.mem_cons_of_mem _ z))]
    by_cases e : p.1 = x
    · rw [if_pos e, if_pos e, if_neg fun z => h1 (e.trans z)]
    · rw [if_neg e, if_neg e]
theorem co_map_put : ∀ (d : List (Str × Int)) (c : Str) (v : Int) (x : Str), co (d.map fun p => if p.1 = c then (p.1, v) else p) x = if x = c ∧ c ∈ keysD d then v else co d x
  | [], c, v, x => by simp [keysD]
  | p :: d, c, v, x => by
    rw [List.map_cons, co_cons, co_cons, co_map_put d c v x]
    by_cases e : p.1 = c
    · rw [if_pos e]
      by_cases h : p.1 = x
      · rw [if_pos h, if_pos ⟨h.symm.trans e, by rw [← e]; exact List.mem_cons_self⟩]
      · have hx : ¬ x = c := fun z => h (e.trans z.symm)
        rw [if_neg h, if_neg h, if_neg fun z => hx z.1, if_neg fun z => hx z.1]
    · rw [if_neg e]
      by_cases h : p.1 = x
      · rw [if_pos h, if_pos h, if_neg fun z => e (h.trans z.1)]
      · rw [if_neg h, if_neg h]
        by_cases hx : x = c
        · have : (c ∈ keysD (p :: d)) ↔ c ∈ keysD d := by
            constructor
            · intro z
              rcases List.mem_cons.mp z with z | z
              · exact absurd z.symm e
              · exact z
            · exact fun z => List.mem_cons_of_mem _ z
          simp only [this]
        · rw [if_neg fun z => hx z.1, if_neg fun z => hx z.1]
theorem co_put (d : List (Str × Int)) (c : Str) (v : Int) (x : Str) : co (sput d c v) x = if x = c then v else co d x := by
  by_cases h : c ∈ keysD d
  · unfold sput
    rw [if_pos]
    · rw [co_map_put]
      by_cases e : x = c
      · rw [if_pos ⟨e, h⟩, if_pos e]
      · rw [if_neg fun z => e z.1, if_neg e]
    · obtain ⟨p, hp, rfl⟩ := List.mem_map.mp h
      rw [List.any_eq_true]
      exact ⟨p, hp, by simp⟩
  · rw [sput_keys_out h]
    exact co_append_out h x
theorem nodup_len {α : Type} [BEq α] [LawfulBEq α] : ∀ {l m : List α}, l.Nodup → (∀ x ∈ l, x ∈ m) → l.length ≤ m.length
  | [], _, _, _ => Nat.zero_le _
  | x :: l, m, h, hs => by
    obtain ⟨h1, h2⟩ := List.nodup_cons.mp h
    have hx := hs x List.mem_cons_self
    have ih := nodup_len (l := l) (m := m.erase x) h2 fun y hy => (List.mem_erase_of_ne (a := y) (b := x) (fun (z : y = x) => h1 (by rw [← z]; exact hy))).mpr (hs y (List.mem_cons_of_mem _ hy))
    rw [List.length_erase_of_mem hx] at ih
    have : 0 < m.length := List.length_pos_of_mem hx
    simp only [List.length_cons]
    omega
theorem keys_le {d : List (Str × Int)} (hd : (keysD d).Nodup) (hs : ∀ c ∈ keysD d, c ∈ C8) : d.length ≤ 8 := by
  have h := nodup_len hd hs
  simpa [keysD] using h
def sm (φ : Str → Int) : Int := (C8.map φ).sum
theorem sm_ext {φ ψ : Str → Int} (h : ∀ c ∈ C8, φ c = ψ c) : sm φ = sm ψ := by
  unfold sm
  rw [List.map_congr_left h]
theorem sum_add {α : Type} (φ ψ : α → Int) : ∀ l : List α, (l.map fun c => φ c + ψ c).sum = (l.map φ).sum + (l.map ψ).sum
  | [] => rfl
  | x :: l => by simp only [List.map_cons, List.sum_cons]; rw [sum_add φ ψ l]; omega
theorem sum_mul {α : Type} (φ : α → Int) (m : Int) : ∀ l : List α, (l.map fun c => φ c * m).sum = (l.map φ).sum * m
  | [] => by simp
  | x :: l => by simp only [List.map_cons, List.sum_cons]; rw [sum_mul φ m l, Int.add_mul]
theorem sum_zero {α : Type} : ∀ l : List α, (l.map fun _ => (0 : Int)).sum = 0
  | [] => rfl
  | x :: l => by simp only [List.map_cons, List.sum_cons]; rw [sum_zero l]; rfl
theorem sum_swap {α β : Type} (f : α → β → Int) (m : List β) : ∀ l : List α, (l.map fun a => (m.map fun b => f a b).sum).sum = (m.map fun b => (l.map fun a => f a b).sum).sum
  | [] => by simp [sum_zero]
  | x :: l => by
    simp only [List.map_cons, List.sum_cons]
    rw [sum_swap f m l, ← sum_add]
theorem sum_filter (φ : Str → Int) (ψ : Str → Int) : ∀ l : List Str, (((l.filter fun c => φ c != 0).map fun c => (c, φ c)).map fun p => p.2 * ψ p.1).sum = (l.map fun c => φ c * ψ c).sum
  | [] => rfl
  | x :: l => by
    rw [List.filter_cons]
    by_cases h : φ x = 0
    · rw [if_neg (by simp [h]), sum_filter φ ψ l, List.map_cons, List.sum_cons, h]; simp
    · rw [if_pos (by simpa using h)]
      simp only [List.map_cons, List.sum_cons]
      rw [sum_filter φ ψ l]
theorem sum_nf (φ ψ : Str → Int) : ((nf φ).map fun p => p.2 * ψ p.1).sum = sm fun c => φ c * ψ c := sum_filter φ ψ C8
theorem sum_one (v : Int) (x : Str) : ∀ {l : List Str}, l.Nodup → (l.map fun c => if c = x then v else 0).sum = if x ∈ l then v else 0
  | [], _ => by simp
  | y :: l, h => by
    obtain ⟨h1, h2⟩ := List.nodup_cons.mp h
    rw [List.map_cons, List.sum_cons, sum_one v x h2]
    by_cases e : y = x
    · subst e
      simp [h1]
    · rw [if_neg e]
      have : (x ∈ y :: l) ↔ x ∈ l := by simp [Ne.symm e]
      simp [this]
end UM
set_option linter.all false
set_option Elab.async false
set_option maxRecDepth 100000
set_option maxHeartbeats 1000000
namespace UM
open PySem PySem.Spec PyProof.Rows L2
section
variable {X : Cx} {Ps : Tb} {Ob O O' O1 O2 : List Nat} {a b c : Expr} {es rest : List Expr} {ma mb mc : EM} {ms : AM} {pos cpos : Pos}
def tyU : U → Option String
  | .non => some "NoneType"
  | .bl _ => some "bool"
  | .int _ => some "int"
  | .str _ => some "str"
  | .tup _ => some "tuple"
  | .lst _ => some "list"
  | _ => none
end
end UM
set_option linter.all false
set_option Elab.async false
set_option maxRecDepth 100000
set_option maxHeartbeats 1000000
namespace L2
open PySem PySem.Spec PyProof.Rows HT
section
variable {prog : Program} {w : World} {A : Around} {E : Value → Shared → Prop} {s : Shared}
theorem whole_tup {t sl : Addr} {items : Array Value} {vl vu : Value} {lo hi : Option Int} {Q : Value → Shared → Prop} (ht : IsTup s.heap t items) (hs : s.heap.IsSliceOf sl vl vu .none) (pl : IsPart vl lo) (pu : IsPart vu hi)
    (hw : sIx items.size 0 lo = 0 ∧ sIx items.size items.size hi = items.size) (h : Q (.ref t) s) : wpAny (model prog w) A (getItem (.ref t) (.ref sl)) Q E s := by
  obtain ⟨os, hos, hcs, hds⟩ := id hs
  have hTs : s.TypeIs (.ref sl) "slice" := ⟨os, hos, hcs⟩
  unfold getItem
  try with_reducible refine wpAny_holding ?_
  first | refine wpAny_bind (wpAny_pure ?_) | skip
  refine wpAny_bind (wpAny_sequenceKey ht.typeIs (by decide) ?_)
  refine wpAny_bind (wpAny_callSpecial?_slot (name := Str.ofString "__getitem__") ht.typeIs PyProof.Rows.slot_tuple_getitem
    (wpAny_call_entry PyProof.Rows.slot_tuple_getitem ht.typeIs entry_tuple_getitem ?_ (args_tuple_getitem _ _)))
  show wpAny _ _ (Builtin.Tuple.tupleItemsOf (.ref t) >>= _) _ _ s
  refine wpAny_bind (tupleItemsOf_ ht ?_)
  refine wpAny_bind (wpAny_typeOf hTs ?_)
  rw [if_pos (by decide)]
  refine wpAny_bind (sliceApplied_gen hs pl pu ?_)
  have hyes : ((((sIx items.size 0 lo : Nat) : Int) == 0 && (1 : Int) == 1 && (sIx items.size items.size hi - sIx items.size 0 lo) == items.size) = true) := by
    rw [hw.1, hw.2]; simp
  show wpAny _ _ (if (((sIx items.size 0 lo : Nat) : Int) == 0 && (1 : Int) == 1 && (sIx items.size items.size hi - sIx items.size 0 lo) == items.size) = true then _ else _) _ _ s
  rw [if_pos hyes]
  refine wpAny_bind (m := Builtin.Tuple.tupleIsExact _) ?_
  unfold Builtin.Tuple.tupleIsExact
  refine wpAny_bind (wpAny_typeOf ht.typeIs (wpAny_pure ?_))
  show wpAny _ _ (if ((Value.type "tuple" == Value.type "tuple") = true) then _ else _) _ _ _
  rw [if_pos (by decide)]
  first
    | exact wpAny_bind (wpAny_rule (wpAny_pure ⟨_, rfl, wpAny_pure h⟩))
    | exact wpAny_bind (wpAny_rule (wpAny_bind (wpAny_pure (wpAny_pure ⟨_, rfl, wpAny_pure h⟩))))
    | exact wpAny_bind (wpAny_bind (wpAny_rule (wpAny_pure (wpAny_pure ⟨_, rfl, wpAny_pure h⟩))))
    | exact wpAny_bind (wpAny_bind (wpAny_rule (wpAny_bind (wpAny_pure (wpAny_pure ⟨_, rfl, wpAny_pure h⟩)))))
end
section
variable {X : Cx}
def rSlW (K : PySem.W.Frag) : V → Option Int → Option Int → Hp → VK → Prop := fun x lo hi H Q => ∃ a xs, x = .ref a ∧ SqT K H a xs ∧ HT.sIx xs.length 0 lo = 0 ∧ HT.sIx xs.length xs.length hi = xs.length ∧ Q (.ref a) H
theorem sl_whole : SlR X (rSlW X.K) := by
  intro pins s σ H x v vl vu lo hi sl Q I rx hs pl pu h
  obtain ⟨a, xs, rfl, hx, h1, h2, q⟩ := h
  cases rx
  obtain ⟨its, r, ht, hz⟩ := I.tuple hx
  have hlen : its.toArray.size = xs.length := by rw [List.size_toArray]; exact r.length.symm
  refine ⟨"tuple", _, PyProof.Rows.slot_tuple_getitem.lookup, ht.typeIs, ?_⟩
  exact whole_tup ht hs pl pu (by rw [hlen]; exact ⟨h1, h2⟩) ⟨.ref a, H, I, rfl, q⟩
end
end L2
namespace UM
open PySem L2
def cutU {α : Type} (xs : List α) (lo hi : Option Int) : List α := (xs.drop (HT.sIx xs.length 0 lo)).take (HT.sIx xs.length xs.length hi - HT.sIx xs.length 0 lo)
def fSl : U → Option Int → Option Int → Option U
  | .tup us, lo, hi => some (.tup (cutU us lo hi))
  | .lst us, lo, hi => some (.lst (cutU us lo hi))
  | .str z, lo, hi => if z.length ≤ 1000 then some (.str (cutS z lo hi)) else none
  | _, _, _ => none
abbrev OM := En → Nat → Option (Option Int × Nat)
def oNo : OM := fun _ k => some (none, k)
def oYes (a : EM) : OM := fun env k => (a env k).bind fun x => match x.1 with | .int i => some (some i, x.2) | _ => none
def eSl (a : EM) (l h : OM) : EM := fun env k => (a env k).bind fun x => (l env x.2).bind fun y => (h env y.2).bind fun z => (fSl x.1 y.1 z.1).bind fun u => some (u, z.2)
def tMO (K : PySem.W.Frag) (Ps : Tb) (O : List Nat) (m : OM) : TO := fun σ H Q => ∃ G F env k u k', SR K Ps G O F H σ env k ∧ m env k = some (u, k') ∧ ∀ H' F', SR K Ps G O F' H' σ env k' → Stp G F H F' H' → Q u H'
structure POV (X : Cx) (Ps : Tb) (O : List Nat) (e : Option Expr) (m : OM) : Prop where
  po : PO X e (tMO X.K Ps O m)
theorem reps_drop {t sc : Addr} {F : Addr → Prop} {H : Hp} : ∀ {vs : List V} {us : List U}, Reps t sc F H vs us → ∀ n, Reps t sc F H (vs.drop n) (us.drop n)
  | _, _, .nil, n => by simpa using Reps.nil
  | _, _, .cons h r, 0 => .cons h r
  | _, _, .cons h r, n + 1 => reps_drop r n
theorem reps_take {t sc : Addr} {F : Addr → Prop} {H : Hp} : ∀ {vs : List V} {us : List U}, Reps t sc F H vs us → ∀ n, Reps t sc F H (vs.take n) (us.take n)
  | _, _, .nil, n => by simpa using Reps.nil
  | _, _, .cons h r, 0 => .nil
  | _, _, .cons h r, n + 1 => .cons h (reps_take r n)
theorem cut_reps {t sc : Addr} {F : Addr → Prop} {H : Hp} {vs : List V} {us : List U} (r : Reps t sc F H vs us) (lo hi : Option Int) : Reps t sc F H (cutV vs lo hi) (cutU us lo hi) := by
  unfold cutV cutU
  rw [r.length]
  exact reps_take (reps_drop r _) _
section
variable {X : Cx} {Ps : Tb} {O : List Nat} {a b c : Expr} {lo hi : Option Expr} {ma mb mc : EM} {ml mh : OM} {pos p2 : Pos}
theorem pov_no : POV X Ps O none oNo := ⟨fun pins s σ H Q I ⟨G, F, env, k, u, k', S, hm, q⟩ => po_none pins s σ H Q I (by cases hm; exact q H F S .refl)⟩
theorem pov_yes (ha : PEV X Ps O a ma) : POV X Ps O (some a) (oYes ma) := ⟨fun pins s σ H Q I ⟨G, F, env, k, u, k', S, hm, q⟩ => po_some ha.pe pins s σ H Q I (by
  obtain ⟨⟨x, k1⟩, h1, hm⟩ := ob hm
  refine ⟨G, F, env, k, x, k1, S, h1, fun v H1 F1 S1 m1 r1 => ?_⟩
  cases x with
  | int i => cases hm; cases r1; exact ⟨i, rfl, q H1 F1 S1 m1⟩
  | _ => cases hm)⟩
theorem pev_sl (ha : PEV X Ps O a ma) (hl : POV X Ps O lo ml) (hh : POV X Ps O hi mh) : PEV X Ps O (.Subscript a (.Slice lo hi none p2) pos) (eSl ma ml mh) := by
  refine ⟨impE (pe_slice (sl_whole.or (sl_tup.or (sl_list.or sl_str))) ha.pe hl.po hh.po) fun σ H Q hq => ?_⟩
  obtain ⟨G, F, env, k, u, k', S, hm, q⟩ := hq
  obtain ⟨⟨x, k1⟩, h1, hm⟩ := ob hm
  obtain ⟨⟨y, k2⟩, h2, hm⟩ := ob hm
  obtain ⟨⟨z, k3⟩, h3, hm⟩ := ob hm
  obtain ⟨u', h4, hm⟩ := ob hm
  cases hm
  refine ⟨G, F, env, k, x, k1, S, h1, fun v H1 F1 S1 m1 r1 => ⟨G, F1, env, k1, y, k2, S1, h2, fun H2 F2 S2 m2 => ⟨G, F2, env, k2, z, _, S2, h3, fun H3 F3 S3 m3 => ?_⟩⟩⟩
  have r3 := (r1.mono m2.mo).mono m3.mo
  have mm := m1.trans (m2.trans m3)
  cases r3 with
  | @tup ad vs us f h r =>
    cases h4
    by_cases hw : HT.sIx vs.length 0 y = 0 ∧ HT.sIx vs.length vs.length z = vs.length
    · refine .inl ⟨ad, vs, rfl, SqT.of h, hw.1, hw.2, ?_⟩
      have e : cutU us y z = us := by
        unfold cutU
        rw [← r.length, hw.1, hw.2, List.drop_zero, Nat.sub_zero, r.length, List.take_length]
      rw [e] at q
      exact q _ H3 F3 S3 mm (.tup f h r)
    · refine .inr (.inl ⟨ad, vs, rfl, SqT.of h, hw, fun p hp => ?_⟩)
      have st := stp_alloc (o := .tup (cutV vs y z)) S3.b hp (by intro ps z; cases z)
      exact q _ _ _ (S3.step st (S3.b.alloc (o := .tup (cutV vs y z)) hp (by intro ps z; cases z)).1) (mm.trans st) (.tup (.inr rfl) upd_same ((cut_reps r y z).mono st.mo))
  | @lst ad vs us f h r =>
    cases h4
    refine .inr (.inr (.inl ⟨ad, vs, rfl, SqL.of h, fun p hp => ?_⟩))
    have st := stp_alloc (o := .lst (cutV vs y z)) S3.b hp (by intro ps z; cases z)
    exact q _ _ _ (S3.step st (S3.b.alloc (o := .lst (cutV vs y z)) hp (by intro ps z; cases z)).1) (mm.trans st) (.lst (.inr rfl) upd_same ((cut_reps r y z).mono st.mo))
  | str x =>
    simp only [fSl] at h4
    split at h4
    · rename_i hz
      cases h4
      exact .inr (.inr (.inr ⟨x, rfl, size1000 hz, q _ H3 F3 S3 mm (.str _)⟩))
    · cases h4
  | _ => cases h4
end
end UM
set_option linter.all false
set_option Elab.async false
set_option maxRecDepth 100000
set_option maxHeartbeats 1000000
namespace L2
open PySem PySem.Spec PyProof.Rows HT
section
variable {prog : Program} {w : World} {A : Around} {E : Value → Shared → Prop} {s : Shared}
end
section
variable {X : Cx} {e : Expr} {te : TE} {pos p2 p3 p4 : Pos} {j : Nat}
end
end L2
namespace UM
open PySem L2
section
variable {X : Cx} {Ps : Tb} {O : List Nat} {a : Expr} {ma : EM} {pos p2 p3 p4 : Pos}
end
end UM
set_option linter.all false
set_option Elab.async false
set_option maxRecDepth 100000
set_option maxHeartbeats 1000000
namespace EN
open PySem L2 PySem.Spec PyProof.Rows
open Sem (wp)
open AutoSeq1 (wpAny_loadPart')
section
variable {prog : Program} {w : World} {A : Around} {E : Value → Shared → Prop} {s : Shared}
end
end EN
namespace UM
open PySem L2 PySem.Spec PyProof.Rows
def enumU : List U → List U := fun us => (us.zipIdx).map fun x => .tup [.int (x.2 : Nat), x.1]
def itemsE : U → Option (List U)
  | .tup us => some us
  | .lst us => some us
  | _ => none
def aEnum (e : EM) : AM := fun env k => (e env k).bind fun x => (itemsE x.1).bind fun us => some (enumU us, x.2)
section
variable {X : Cx} {Ps : Tb} {O : List Nat} {a : Expr} {ma : EM} {pos : Pos}
end
end UM
set_option linter.all false
set_option Elab.async false
set_option maxRecDepth 100000
set_option maxHeartbeats 1000000
namespace UM
open PySem L2
mutual
def imm : U → Bool
  | .non => true
  | .bl _ => true
  | .int _ => true
  | .str _ => true
  | .tup us => imms us
  | .lst _ => false
  | .dct _ => false
  | .town => false
  | .scr => false
def imms : List U → Bool
  | [] => true
  | u :: us => imm u && imms us
end
section
variable {K : PySem.W.Frag} {Ps : Tb} {G : Gx} {O O' : List Nat} {F F' F'' : Addr → Prop} {H H' H'' : Hp} {σ : St} {env : En} {k k' k'' : Nat}
mutual
theorem Rep.imm {t sc : Addr} : ∀ {v : V} {u : U}, Rep t sc F H v u → UM.imm u = true → (∀ a, F a → (∃ vs, H a = some (.tup vs)) → F' a) → Rep t sc F' H v u
  | _, _, .non, _, _ => .non
  | _, _, .bl b, _, _ => .bl b
  | _, _, .int i, _, _ => .int i
  | _, _, .str x, _, _ => .str x
  | _, _, .tup f r h, q, m => .tup (m _ f ⟨_, r⟩) r (Reps.imm h q m)
  | _, _, .lst _ _ _, q, _ => by cases q
  | _, _, .dct _ _ _, q, _ => by cases q
  | _, _, .town, _, _ => .town
  | _, _, .scr, _, _ => .scr
theorem Reps.imm {t sc : Addr} : ∀ {vs : List V} {us : List U}, Reps t sc F H vs us → UM.imms us = true → (∀ a, F a → (∃ vs, H a = some (.tup vs)) → F' a) → Reps t sc F' H vs us
  | _, _, .nil, _, _ => .nil
  | _, _, .cons h r, q, m => by
    rw [UM.imms, Bool.and_eq_true] at q
    exact .cons (Rep.imm h q.1 m) (Reps.imm r q.2 m)
end
theorem SR.lend (S : SR K Ps G O F H σ env k) (i : Nat) (hO : ∀ j, j ∈ O' ↔ (j ∈ O ∧ j ≠ i)) : ∃ F', SR K Ps G O' F' H σ env k ∧ Mo F H F' H ∧
    ((∀ a, F' a ↔ F a) ∨ ∃ p w, (∀ a, F' a ↔ (F a ∨ a = p)) ∧ ¬ F p ∧ p ≠ G.t ∧ G.H0 p = none ∧ H p = some w ∧ (∀ ps, w ≠ .tbl ps) ∧ ∀ vs, w ≠ .tup vs) := by
  by_cases hn : i ∈ O ∧ ∃ u, env[i]? = some (some u)
  · obtain ⟨hi, u, e⟩ := hn
    obtain ⟨a, e1, o⟩ := S.ow i hi u e
    obtain ⟨w, hw, hnt, hnp⟩ : ∃ w, H a = some w ∧ (∀ ps, w ≠ .tbl ps) ∧ ∀ vs, w ≠ .tup vs := by
      have c := o.c
      cases u with
      | lst us => obtain ⟨vs, h, _⟩ := c; exact ⟨_, h, (by intro ps z; cases z), (by intro ps z; cases z)⟩
      | dct us => obtain ⟨vs, h, _⟩ := c; exact ⟨_, h, (by intro ps z; cases z), (by intro ps z; cases z)⟩
      | _ => exact c.elim
    obtain ⟨B, mo⟩ := S.b.share hw hnt o.nt o.n0
    refine ⟨fun x => F x ∨ x = a, ⟨S.hK, S.hP, B, S.len, fun j u' hj e' => ?_, fun j hj u' e' => ?_, fun x y b hx hy => S.ap x y b ((hO x).mp hx).1 ((hO y).mp hy).1⟩, mo, .inr ⟨a, w, fun _ => Iff.rfl, o.nF, o.nt, o.n0, hw, hnt, hnp⟩⟩
    · by_cases hji : j = i
      · subst hji
        rw [e] at e'; cases e'
        refine ⟨.ref a, e1, ?_⟩
        have c := o.c
        cases u with
        | lst us => obtain ⟨vs, h, r⟩ := c; exact .lst (.inr rfl) h (r.mono mo)
        | dct us => obtain ⟨vs, h, r⟩ := c; exact .dct (.inr rfl) (.inl h) (r.mono mo)
        | _ => exact c.elim
      · obtain ⟨v, h1, h2⟩ := S.sl j u' (fun z => hj ((hO j).mpr ⟨z, hji⟩)) e'
        exact ⟨v, h1, h2.mono mo⟩
    · obtain ⟨hjO, hji⟩ := (hO j).mp hj
      obtain ⟨b, e2, o2⟩ := S.ow j hjO u' e'
      have ne : b ≠ a := fun z => hji (S.ap j i a hjO hi ⟨_, e'⟩ ⟨_, e⟩ (z ▸ e2) e1)
      refine ⟨b, e2, fun z => z.elim o2.nF ne, o2.nt, o2.n0, ?_⟩
      have c := o2.c
      cases u' with
      | lst us => obtain ⟨vs, h, r⟩ := c; exact ⟨vs, h, r.mono mo⟩
      | dct us => obtain ⟨vs, h, r⟩ := c; exact ⟨vs, h, r.mono mo⟩
      | _ => exact c.elim
  · refine ⟨F, S.drop (fun j hj => ((hO j).mp hj).1) fun j h1 h2 => ?_, .refl, .inl fun _ => Iff.rfl⟩
    have hji : j = i := by
      by_cases z : j = i
      · exact z
      · exact absurd ((hO j).mpr ⟨h1, z⟩) h2
    subst hji
    cases e : env[j]? with
    | none => exact .inr rfl
    | some x =>
      cases x with
      | none => exact .inl rfl
      | some u => exact absurd ⟨h1, u, e⟩ hn
theorem unlend (B : Base G F H k) {p : Addr} {w : HO} (iff : ∀ a, F' a ↔ (F a ∨ a = p)) (nF : ¬ F p) (n0 : G.H0 p = none) (hp : H p = some w) (hw : ∀ vs, w ≠ .tup vs) (st : Stp G F' H F'' H'') (B'' : Base G F'' H'' k'') :
    Base G (fun a => F'' a ∧ a ≠ p) H'' k'' ∧ Stp G F H (fun a => F'' a ∧ a ≠ p) H'' ∧ H'' p = some w := by
  have ff : ∀ a, F a → F'' a ∧ a ≠ p := fun a f => ⟨st.mo.f a ((iff a).mpr (.inl f)), fun z => nF (z ▸ f)⟩
  have hh : ∀ a u, F a → H a = some u → H'' a = some u := fun a u f h => st.mo.h a u ((iff a).mpr (.inl f)) h
  have hp2 : H'' p = some w := st.mo.h p w ((iff p).mpr (.inr rfl)) hp
  refine ⟨⟨B.ok, B''.nn, B''.fr, fun a f => ff a (B.f0 a f), fun a f => B''.fF a f.1, fun a f => B''.fd a f.1, fun f => B''.ft f.1, B''.tw, B''.tb⟩, ⟨⟨ff, hh⟩, fun a u n nt n0 h q => ?_⟩, hp2⟩
  by_cases z : a = p
  · subst z
    rw [hp] at h; cases h
    exact ⟨fun f => f.2 rfl, hp2⟩
  · obtain ⟨g1, g2⟩ := st.ow a u (fun f => ((iff a).mp f).elim n z) nt n0 h q
    exact ⟨fun f => g1 f.1, g2⟩
end
def eImm (m : EM) : EM := fun env k => (m env k).bind fun x => if imm x.1 = true then some x else none
section
variable {X : Cx} {Ps : Tb} {Ob O O' O1 O2 : List Nat} {a b c : Expr} {es : List Expr} {ma mb mc : EM} {ms : AM} {pos cpos : Pos} {st : Stmt} {sts : List Stmt} {m1 m2 : SM} {tg : Expr} {iter elt : Expr} {ifs : List Expr} {scope : Scope} {own : List (Str × Nat)} {g : GM} {mt : BM} {me : EM} {vs : List Nat}
theorem pev_lend (i : Nat) (hO : ∀ j, j ∈ O' ↔ (j ∈ O ∧ j ≠ i)) (h : PEV X Ps O' a ma) : PEV X Ps O a (eImm ma) := ⟨impE h.pe fun σ H Q ⟨G, F, env, k, u, k', S, hm, q⟩ => by
  obtain ⟨⟨u1, k1⟩, e1, hm⟩ := ob hm
  dsimp only at hm
  split at hm
  · rename_i hs
    cases hm
    obtain ⟨F', S', mo, h⟩ := S.lend i hO
    refine ⟨G, F', env, k, u, k', S', e1, fun v H1 F1 S1 st1 r => ?_⟩
    rcases h with h | ⟨p, w, iff, nF, nt, n0, hp, hnt, hnp⟩
    · have st2 : Stp G F H F1 H1 := ⟨mo.trans st1.mo, fun x u n t z h' q' => st1.ow x u (fun f => n ((h x).mp f)) t z h' q'⟩
      exact q v H1 F1 (S.step st2 S1.b) st2 r
    · obtain ⟨B2, st2, hp2⟩ := unlend S.b iff nF n0 hp hnp st1 S1.b
      refine q v H1 _ (S.step st2 B2) st2 (r.imm hs fun x f ⟨vs, e⟩ => ⟨f, fun z => ?_⟩)
      subst z
      rw [hp2] at e; cases e
      exact hnp _ rfl
  · cases hm⟩
def whL (c : BM) (b : SM) : Nat → En → Nat → Option (Ctl × Nat)
  | 0, _, _ => none
  | n + 1, env, k => (c env k).bind fun x => if x.1 = true then (b env x.2).bind fun y => match y.1 with
    | .nx e => whL c b n e y.2
    | .ct e => whL c b n e y.2
    | .bk e => some (.nx e, y.2)
    | .rt u => some (.rt u, y.2)
    else some (.nx env, x.2)
def sWhile (c : BM) (b : SM) : SM := whL c b 100000
theorem psv_while {m : BM} {body : List Stmt} {mbd : SM} (hp : PassesOwn (model X.prog X.w) X.A X.env X.xe) (hc : PBV X Ps O c m) (hb : PSsV X Ps O O O body mbd) : PSV X Ps Ob O O (.While c body [] pos) (sWhile m mbd) := by
  refine ⟨impS (ps_while hp hc.pt hb.ps) fun D σ H hq => ?_⟩
  obtain ⟨G, F, env, k, c, k', S, hm, q⟩ := hq
  refine ⟨fun n σ2 H2 => ∃ F2 env2 k2, SR X.K Ps G O F2 H2 σ2 env2 k2 ∧ Mo F H F2 H2 ∧ whL m mbd n env2 k2 = some (c, k'), ⟨100000, F, env, k, S, .refl, hm⟩, ?_⟩
  rintro n σ2 H2 ⟨F2, env2, k2, S2, mo2, hl⟩
  cases n with
  | zero => cases hl
  | succ n =>
    obtain ⟨⟨bt, kt⟩, et, hl⟩ := ob hl
    refine ⟨G, F2, env2, k2, bt, kt, S2, et, fun H3 F3 S3 st3 => ?_⟩
    dsimp only at hl
    cases bt with
    | false =>
      simp only [Bool.false_eq_true, if_false] at hl ⊢
      cases hl
      exact q _ H3 F3 S3 (mo2.trans st3.mo)
    | true =>
      simp only [if_true] at hl ⊢
      obtain ⟨⟨c4, k4⟩, e4, hl⟩ := ob hl
      refine ⟨fun σ' H' => ∃ F' env' k2', SR X.K Ps G O F' H' σ' env' k2' ∧ Mo F H F' H' ∧ whL m mbd n env' k2' = some (c, k'), fun σ' H' h' => ⟨n, Nat.lt_succ_self _, h'⟩, ?_⟩
      have mo3 : Mo F H F3 H3 := mo2.trans st3.mo
      refine ⟨G, F3, env2, kt, c4, k4, S3, e4, ?_⟩
      cases c4 with
      | nx e => exact fun σ' H' F' S' mo' => ⟨F', e, k4, S', mo3.trans mo', hl⟩
      | ct e => exact fun σ' H' F' S' mo' => ⟨F', e, k4, S', mo3.trans mo', hl⟩
      | bk e => cases hl; exact fun σ' H' F' S' mo' => q σ' H' F' S' (mo3.trans mo')
      | rt u' => cases hl; exact fun v H' F' B' mo' r' => q v H' F' B' (mo3.trans mo') r'
def sAppPop (i j : Nat) (a : EM) : SM := fun env k => (a env k).bind fun x => match x.1, env[j]?, env[i]? with
  | .int n, some (some (.lst us)), some (some (.lst ws)) => if 0 ≤ n ∧ n < us.length ∧ us.length ≤ 1000 ∧ ws.length < 1000 then (us[n.toNat]?).bind fun y => some (.nx ((env.set j (some (.lst (us.eraseIdx n.toNat)))).set i (some (.lst (ws ++ [y])))), x.2) else none
  | _, _, _ => none
theorem seqIx {n : Int} {l : Nat} (h0 : 0 ≤ n) (h1 : n < l) : seqIndex? n l = some n.toNat := by
  unfold seqIndex?
  have e : (if n < 0 then n + (l : Int) else n) = n := if_neg (by omega)
  simp only [e]
  rw [if_pos (by simp [h0, h1])]
theorem reps_erase {t sc : Addr} {F : Addr → Prop} {H : Hp} : ∀ {vs : List V} {us : List U}, Reps t sc F H vs us → ∀ n, Reps t sc F H (vs.eraseIdx n) (us.eraseIdx n)
  | _, _, .nil, _ => .nil
  | _, _, .cons _ r, 0 => r
  | _, _, .cons h r, n + 1 => .cons h (reps_erase r n)
theorem psv_appPop (i j : Nat) (hij : i ≠ j) {x y : Str} {px apos py bpos qpos : Pos} (hi : i ∈ O) (hj : j ∈ O) (ha : PEV X Ps O a ma) (hN : X.N[i]? = some x := by rfl) (hvis : Vis X.env.scope x := by first | exact Or.inl rfl | exact Or.inr (Or.inl rfl) | exact Or.inr (Or.inr rfl)) (hd : (x == ("__debug__" : Str)) = false := by decide)
    (hcd : (x == ("__classdict__" : Str)) = false := by decide)
    (hN2 : X.N[j]? = some y := by rfl) (hvis2 : Vis X.env.scope y := by first | exact Or.inl rfl | exact Or.inr (Or.inl rfl) | exact Or.inr (Or.inr rfl)) (hd2 : (y == ("__debug__" : Str)) = false := by decide) (hcd2 : (y == ("__classdict__" : Str)) = false := by decide)
    (hbase2 : attributeBase (.Name y py) "pop" X.env (eval (.Name y py) X.env) = eval (.Name y py) X.env := by rfl)
    (hfew2 : ((backTo qpos (starEach [a] X.env)).all (fun x => !x.1) && (backToKw qpos (keywordEach [] X.env)).all (fun x => x.1.isSome) && decide (([a] : List Expr).length + ([] : List Keyword).length + (if ([] : List Keyword).isEmpty then 0 else 1) < 30)) = true := by rfl)
    (hline2 : (bpos.endLine == qpos.line) = true := by rfl) (hs2 : starEach [a] X.env = (false, eval a X.env) :: starEach [] X.env := by rfl)
    (hbase : attributeBase (.Name x px) "append" X.env (eval (.Name x px) X.env) = eval (.Name x px) X.env := by rfl)
    (hfew : ((backTo cpos (starEach [.Call (.Attribute (.Name y py) "pop" bpos) [a] [] qpos] X.env)).all (fun x => !x.1) && (backToKw cpos (keywordEach [] X.env)).all (fun x => x.1.isSome) && decide (([.Call (.Attribute (.Name y py) "pop" bpos) [a] [] qpos] : List Expr).length + ([] : List Keyword).length + (if ([] : List Keyword).isEmpty then 0 else 1) < 30)) = true := by rfl)
    (hline : (apos.endLine == cpos.line) = true := by rfl) (hs : starEach [.Call (.Attribute (.Name y py) "pop" bpos) [a] [] qpos] X.env = (false, eval (.Call (.Attribute (.Name y py) "pop" bpos) [a] [] qpos) X.env) :: starEach [] X.env := by rfl)
    (hsw : swapsWith (.Call (.Attribute (.Name x px) "append" apos) [.Call (.Attribute (.Name y py) "pop" bpos) [a] [] qpos] [] cpos) none pos.line X.env = pure false := by rfl) :
    PSV X Ps Ob O O (.Expr (.Call (.Attribute (.Name x px) "append" apos) [.Call (.Attribute (.Name y py) "pop" bpos) [a] [] qpos] [] cpos) pos) (sAppPop i j ma) := by
  have hpop := pe_bm (X := X) (es := []) PySem.F.plainAttrs_list PySem.F.slot_list_pop PySem.F.type_list_pop mt_popAt (pv j hN2 hvis2 hd2 hcd2) (pav_cons ha pav_nil hs2).pa hbase2 hfew2 hline2 hs2 rfl
  refine ⟨impS (ps_expr (pe_bm (es := []) PySem.F.plainAttrs_list PySem.F.slot_list_append PySem.F.type_list_append mt_append (pv i hN hvis hd hcd) (pa_cons hpop pa_nil hs) hbase hfew hline hs rfl) hsw) fun D σ H hq => ?_⟩
  obtain ⟨G, F, env, k, c, k', S, hm, q⟩ := hq
  obtain ⟨⟨n, k1⟩, h1, hm⟩ := ob hm
  dsimp only at hm
  split at hm
  · rename_i n us ws e2 e1
    split at hm
    · rename_i hb
      obtain ⟨h0, hlt, hl1, hl2⟩ := hb
      obtain ⟨yv, ey, hm⟩ := ob hm
      injection hm with hm
      injection hm with hc hk
      subst hc hk
      obtain ⟨ad, ea, o⟩ := S.ow i hi _ e1
      obtain ⟨l0, hl0, _⟩ := o.c
      obtain ⟨bd, eb, o'⟩ := S.ow j hj _ e2
      obtain ⟨m0, hm0, _⟩ := o'.c
      refine ⟨_, ea, .inl ⟨rfl, l0, SqL.of hl0⟩, _, eb, .inl ⟨rfl, m0, SqL.of hm0⟩, G, F, env, k, [.int n], k1, S, by simp [aCons, aNil, h1], fun vs H1 F1 S1 m1 r1 => ?_⟩
      obtain ⟨w, rfl, rw'⟩ := reps_one r1
      cases rw'
      obtain ⟨bd2, eb2, o2⟩ := S1.ow j hj _ e2
      rw [eb] at eb2; cases eb2
      obtain ⟨l, hl, r⟩ := o2.c
      obtain ⟨v, ev, rv⟩ := r.get ey
      have hb63 : (us.length : Int) ≤ 1000 := by omega
      refine ⟨bd, l, n, n.toNat, v, rfl, rfl, hl, by omega, by omega, seqIx h0 (by rw [r.length]; exact hlt), ev, ?_⟩
      obtain ⟨S2, mo2⟩ := S1.mut (u' := .lst (us.eraseIdx n.toNat)) (o := .lst (l.eraseIdx n.toNat)) hj e2 eb o2 fun mo => ⟨_, upd_same, (reps_erase r _).mono mo⟩
      have e1' : (env.set j (some (.lst (us.eraseIdx n.toNat))))[i]? = some (some (.lst ws)) := by rw [List.getElem?_set_ne (Ne.symm hij)]; exact e1
      obtain ⟨ad3, ea3, o3⟩ := S2.ow i hi _ e1'
      rw [ea] at ea3; cases ea3
      obtain ⟨l3, hl3, r3⟩ := o3.c
      refine ⟨ad, l3, v, rfl, rfl, hl3, by rw [r3.length]; exact small1000 (Nat.le_of_lt hl2), ?_⟩
      obtain ⟨S4, mo4⟩ := S2.mut (u' := .lst (ws ++ [yv])) (o := .lst (l3 ++ [v])) hi e1' ea o3 fun mo => ⟨_, upd_same, (r3.append (.cons (rv.mono mo2) .nil)).mono mo⟩
      exact q _ _ _ S4 (m1.mo.trans (mo2.trans mo4))
    · cases hm
  · cases hm
end
end UM
set_option linter.all false
set_option Elab.async false
set_option maxRecDepth 100000
set_option maxHeartbeats 1000000
namespace UM
open PySem L2
def tMF2 (K : PySem.W.Frag) (Ps : Tb) (O : List Nat) (m : EM) : TE := fun σ H Q => ∃ G F env k u k', SR K Ps G O F H σ env k ∧ m env k = some (u, k') ∧ ∀ a H' F', SR K Ps G O F' H' σ env k' → Stp G F H F' H' → Own G F' H' a u →
  (∀ j ∈ O, ∀ u', env[j]? = some (some u') → σ[j]? ≠ some (some (.ref a))) → (∀ z w, ¬ F z → z ≠ G.t → G.H0 z = none → H z = some w → (∀ ps, w ≠ .tbl ps) → z ≠ a) → Q (.ref a) H'
structure PEF2 (X : Cx) (Ps : Tb) (O : List Nat) (e : Expr) (m : EM) : Prop where
  pe : PE X e (tMF2 X.K Ps O m)
section
variable {X : Cx} {Ps : Tb} {Ob O O' O1 O2 : List Nat} {a b c : Expr} {es : List Expr} {ma mb mc : EM} {ms : AM} {pos cpos : Pos} {st : Stmt} {sts : List Stmt} {m1 m2 : SM}
theorem pef2_lst (h : PAV X Ps O es ms) : PEF2 X Ps O (.List es pos) (eLst ms) := ⟨impE (pe_lst h.pa) fun σ H Q ⟨G, F, env, k, u, k', S, hm, q⟩ => by
  obtain ⟨⟨xs, k1⟩, h1, hm⟩ := ob hm
  dsimp only at hm
  split at hm
  · rename_i hl
    cases hm
    refine ⟨G, F, env, k, xs, _, S, h1, fun vs H1 F1 S1 m1 r1 => ⟨by rw [r1.length]; exact size1000 hl, fun p hp => ?_⟩⟩
    obtain ⟨S2, st2, o2, f2⟩ := S1.newO (o := .lst vs) (u := .lst xs) hp fun mo => ⟨vs, upd_same, r1.mono mo⟩
    exact q _ _ _ S2 (m1.trans st2) o2 f2 fun z w n t z0 h q' => ne_of_none (m1.ow z w n t z0 h q').2 hp
  · cases hm⟩
theorem psv_parOO (i j : Nat) {x y : Str} {px py pt : Pos} {kt k2 pt2} (hc : X.calm = true) (hN : X.N.Nodup) (hij : i ≠ j) (hO1 : ∀ n, n ∈ O1 ↔ (n ∈ O ∨ n = i)) (hO2 : ∀ n, n ∈ O2 ↔ (n ∈ O1 ∨ n = j)) (ha : PEF X Ps O a ma) (hb : PEF2 X Ps O b mb)
    (hsa : starEach [a, b] X.env = (false, eval a X.env) :: starEach [b] X.env := by rfl) (hsb : starEach [b] X.env = (false, eval b X.env) :: starEach [] X.env := by rfl) (hix : X.N[i]? = some x := by rfl) (hjy : X.N[j]? = some y := by rfl)
    (hx : X.env.scope.names.lookup x = some .local := by rfl) (hy : X.env.scope.names.lookup y = some .local := by rfl) 
    (hw : swappedStores [.Tuple [.Name x px, .Name y py] kt pt] (.Tuple [a, b] k2 pt2) X.env = pure (some [x, y]) := by rfl)
    (hs : swapsWithSole [.Tuple [.Name x px, .Name y py] kt pt] (.Tuple [a, b] k2 pt2) pos.line X.env = pure false := by rfl) :
    PSV X Ps Ob O O2 (.Assign [.Tuple [.Name x px, .Name y py] kt pt] (.Tuple [a, b] k2 pt2) pos) (sPar i j (aCons ma (aCons mb aNil))) := ⟨impS (ps_par hc hN hix hjy hij hx hy (pa_cons ha.pe (pa_cons hb.pe pa_nil hsb) hsa) hw hs) fun D σ H ⟨G, F, env, k, c, k', S, hm, q⟩ => by
  obtain ⟨⟨us, k1⟩, e1, hm⟩ := ob hm
  obtain ⟨⟨u, k2⟩, e2, e1⟩ := ob e1
  obtain ⟨⟨ws, k3⟩, e3, e1⟩ := ob e1
  obtain ⟨⟨w, k4⟩, e4, e3⟩ := ob e3
  cases e3
  cases e1
  cases hm
  refine ⟨G, F, env, k, u, k2, S, e2, fun p H1 F1 S1 m1 o1 f1 => ⟨G, F1, env, k2, w, k4, S1, e4, fun p2 H2 F2 S2 m2 o2 f2 g2 => ⟨_, _, rfl, ?_⟩⟩⟩
  have ne : p ≠ p2 := by
    have c := o1.c
    cases u with
    | lst us => obtain ⟨vs, h, _⟩ := c; exact g2 p _ o1.nF o1.nt o1.n0 h (by intro ps z; cases z)
    | dct us => obtain ⟨vs, h, _⟩ := c; exact g2 p _ o1.nF o1.nt o1.n0 h (by intro ps z; cases z)
    | _ => exact c.elim
  obtain ⟨n1, c1⟩ := o1.c.step m2 o1.nF o1.nt o1.n0
  have S3 := S2.asgO (O' := O1) (i := i) hO1 ⟨n1, o1.nt, o1.n0, c1⟩ f1
  have S4 := S3.asgO (O' := O2) (i := j) hO2 o2 fun n hn u' e => by
    by_cases hni : i = n
    · subst hni
      by_cases hv : i < σ.length
      · rw [List.getElem?_set_self hv]
        exact fun z => ne (V.ref.inj (Option.some.inj (Option.some.inj z)))
      · rw [List.getElem?_eq_none (by simpa using hv)]
        exact fun z => nomatch z
    · rw [List.getElem?_set_ne hni] at e ⊢
      exact f2 n (((hO1 n).mp hn).elim id fun z => absurd z.symm hni) u' e
  exact q _ H2 F2 S4 (m1.mo.trans m2.mo)⟩
end
end UM
set_option linter.all false
set_option Elab.async false
set_option maxRecDepth 100000
set_option maxHeartbeats 1000000
namespace SC
open PySem L2 PySem.Spec PyProof.Rows
open Sem (wp)
def strOf : Value → Str
  | .str x _ => x
  | _ => ""
def LedOk (w : World) (t : SetTable) (n : Nat) : Prop := (w.params.followText "set-order" = true ∨ t.led = true) ∧ (1 ≤ n → t.plain = false)
structure ElS (P : Program) (w : World) (es : List (Int × Value)) (ks : List Str) : Prop where
  el : ElemsOf (mixKind P w) es
  st : ∀ e ∈ es, ∃ x t, e.2 = .str x t
  pm : (es.map fun e => strOf e.2).Perm ks
def SetS (P : Program) (w : World) (h : Heap) (a : Addr) (ks : List Str) : Prop :=
  ∃ o es ep t, h.get? a = some o ∧ o.ExactSet ∧ o.data = .set es ep t ∧ ElS P w es.toList ks ∧ es.size < scanBound ∧ t.fits es.size = true ∧ LedOk w t es.size
theorem SetS.stay {P : Program} {w : World} {h h' : Heap} {a : Addr} {ks : List Str} (x : SetS P w h a ks) (k : ∀ o, h.get? a = some o → h'.get? a = some o) : SetS P w h' a ks :=
  let ⟨o, es, ep, t, e, r⟩ := x; ⟨o, es, ep, t, k o e, r⟩
theorem SetS.typeIs {P : Program} {w : World} {s : Shared} {a : Addr} {ks : List Str} (x : SetS P w s.heap a ks) : s.TypeIs (.ref a) "set" := let ⟨o, _, _, _, e, c, _⟩ := x; ⟨o, e, c.1⟩
theorem SetS.len {P : Program} {w : World} {h : Heap} {a : Addr} {ks : List Str} (x : SetS P w h a ks) : ks.length < scanBound := by
  obtain ⟨o, es, ep, t, _, _, _, el, hb, _⟩ := x
  have := el.pm.length_eq
  rw [List.length_map, Array.length_toList] at this
  omega
section
variable {P : Program} {w : World} {A : Around} {E : Value → Shared → Prop} {s : Shared}
theorem is_str {x y : Str} {t : Tok} : (mixKind P w).is (.inr x) (.str y t) = decide (x = y) := by
  show (y == x) = _
  by_cases h : x = y
  · subst h; simp
  · rw [decide_eq_false h, beq_eq_false_iff_ne]
    exact Ne.symm h
theorem ElS.push {es : List (Int × Value)} {ks : List Str} {x : Str} {t : Tok} (h : ElS P w es ks) {es' : List (Int × Value)} (p : es'.Perm (es ++ [((mixKind P w).hash (.inr x), .str x t)])) : ElS P w es' (ks ++ [x]) := by
  refine ⟨(h.el.push (k := .inr x) (by rw [is_str]; simp) rfl).perm p, fun e he => ?_, ?_⟩
  · rcases List.mem_append.mp (p.mem_iff.mp he) with q | q
    · exact h.st e q
    · rw [List.mem_singleton.mp q]; exact ⟨x, t, rfl⟩
  · refine (p.map fun e => strOf e.2).trans ?_
    rw [List.map_append]
    exact h.pm.append_right _
theorem ElS.perm {es es' : List (Int × Value)} {ks : List Str} (h : ElS P w es ks) (p : es'.Perm es) : ElS P w es' ks := ⟨h.el.perm p, fun e he => h.st e (p.mem_iff.mp he), (p.map _).trans h.pm⟩
theorem ElS.mem {es : List (Int × Value)} {ks : List Str} (h : ElS P w es ks) (x : Str) : x ∈ ks ↔ ∃ e ∈ es, (mixKind P w).is (.inr x) e.2 = true := by
  rw [← h.pm.mem_iff, List.mem_map]
  constructor
  · rintro ⟨e, he, rfl⟩
    obtain ⟨y, t, e2⟩ := h.st e he
    exact ⟨e, he, by rw [e2, is_str]; simp [strOf]⟩
  · rintro ⟨e, he, q⟩
    obtain ⟨y, t, e2⟩ := h.st e he
    rw [e2, is_str, decide_eq_true_eq] at q
    exact ⟨e, he, by rw [e2, q]; rfl⟩
theorem store_ok {a : Addr} {o : Obj} {es0 es1 : Array (Int × Value)} {ep : Nat} {t0 t1 : SetTable} {ks : List Str} (ho : s.heap.get? a = some o) (hx : o.ExactSet) (hd : o.data = .set es0 ep t0) (el : ElS P w es1.toList ks) (hb : es1.size < scanBound) (hf : t1.fits es1.size = true) (hl : LedOk w t1 es1.size) :
    (s.heap.update a (Obj.putSet es1 t1)).get? a = some { o with data := .set es1 (ep + 1) t1 } ∧ SetS P w (s.heap.update a (Obj.putSet es1 t1)) a ks := by
  have hg : (s.heap.update a (Obj.putSet es1 t1)).get? a = some { o with data := .set es1 (ep + 1) t1 } := by
    have z := Heap.get?_update_self (Obj.putSet es1 t1) ho (by rw [putSet_of es1 t1 hd]; rfl)
    rwa [putSet_of es1 t1 hd] at z
  exact ⟨hg, _, es1, ep + 1, t1, hg, hx, rfl, el, hb, hf, hl⟩
end
end SC
set_option linter.all false
set_option Elab.async false
set_option maxRecDepth 100000
set_option maxHeartbeats 1000000
namespace SC
open PySem L2 PySem.Spec PyProof.Rows
open Sem (wp)
theorem perm_out {α : Type} : ∀ {xs : List α} {n : Nat} {x : α}, xs[n]? = some x → (x :: xs.eraseIdx n).Perm xs
  | [], _, _, h => by simp at h
  | y :: xs, 0, x, h => by
    simp at h; subst h
    exact List.Perm.refl _
  | y :: xs, n + 1, x, h => by
    have ih := perm_out (xs := xs) (n := n) (x := x) (by simpa using h)
    show (x :: y :: xs.eraseIdx n).Perm (y :: xs)
    exact (List.Perm.swap y x _).trans (ih.cons y)
section
variable {P : Program} {w : World} {A : Around} {E : Value → Shared → Prop} {s : Shared}
end
end SC
set_option linter.all false
set_option Elab.async false
set_option maxRecDepth 100000
set_option maxHeartbeats 1000000
namespace SC
open PySem L2 PySem.Spec PyProof.Rows
open Sem (wp)
section
variable {P : Program} {w : World} {A : Around} {E : Value → Shared → Prop} {s : Shared}
structure SetAt (h : Heap) (a : Addr) (es : Array (Int × Value)) (ep : Nat) (t : SetTable) : Prop where
  ex : ∃ o, h.get? a = some o ∧ o.ExactSet ∧ o.data = .set es ep t
  fit : t.fits es.size = true
end
end SC
set_option linter.all false
set_option Elab.async false
set_option maxRecDepth 100000
set_option maxHeartbeats 1000000
namespace SC
open PySem L2 PySem.Spec PyProof.Rows
open Sem (wp)
section
variable {P : Program} {w : World} {A : Around} {E : Value → Shared → Prop} {s : Shared}
end
end SC
set_option linter.all false
set_option Elab.async false
set_option maxRecDepth 100000
set_option maxHeartbeats 1000000
namespace SC
open PySem L2 PySem.Spec PyProof.Rows
open Sem (wp)
section
variable {P : Program} {w : World} {A : Around} {E : Value → Shared → Prop} {s : Shared}
end
end SC
set_option linter.all false
set_option Elab.async false
set_option maxRecDepth 100000
set_option maxHeartbeats 1000000
namespace SC
open PySem L2 PySem.Spec PyProof.Rows
open Sem (wp)
theorem SetAt.stay {h h' : Heap} {a : Addr} {es : Array (Int × Value)} {ep : Nat} {t : SetTable} (x : SetAt h a es ep t) (k : ∀ o, h.get? a = some o → h'.get? a = some o) : SetAt h' a es ep t :=
  let ⟨⟨o, e, r⟩, f⟩ := x; ⟨⟨o, k o e, r⟩, f⟩
section
variable {P : Program} {w : World} {A : Around} {E : Value → Shared → Prop} {s : Shared}
end
end SC
set_option linter.all false
set_option Elab.async false
set_option maxRecDepth 100000
set_option maxHeartbeats 1000000
namespace SC
open PySem L2 PySem.Spec PyProof.Rows
open Sem (wp)
section
variable {P : Program} {w : World} {A : Around} {E : Value → Shared → Prop} {s : Shared}
end
end SC
set_option linter.all false
set_option Elab.async false
set_option maxRecDepth 100000
set_option maxHeartbeats 1000000
namespace SC
open PySem L2 PySem.Spec PyProof.Rows
open Sem (wp)
section
variable {P : Program} {w : World} {A : Around} {E : Value → Shared → Prop} {s : Shared}
end
section
variable {X : Cx}
def SetO (P : Program) (w : World) (a : Addr) (ks : List Str) : HO := .ext fun h => SetS P w h a ks
end
end SC
set_option linter.all false
set_option Elab.async false
set_option maxRecDepth 100000
set_option maxHeartbeats 1000000
namespace SC
open PySem L2 PySem.Spec PyProof.Rows
end SC
namespace L2
open PySem PySem.Spec PyProof.Rows
section
variable {prog : Program} {w : World} {A : Around} {R : Result → Shared → Prop} {s : Shared} {elt t0 i0 t1 i1 : Expr} {ifs0 ifs1 : List Expr} {scope : Scope} {pos : Pos} {it acc : Value} {env : Env}
end
section
variable {X : Cx}
end
end L2
set_option linter.all false
set_option Elab.async false
set_option maxRecDepth 100000
set_option maxHeartbeats 1000000
namespace UM
open PySem L2
structure Acc (G : Gx) (new : Addr → HO) (step : Addr → V → Hp → (Hp → Prop) → Prop) (tot : List U) (DAt : Addr → (Addr → Prop) → Hp → List U → Prop) : Prop where
  init : ∀ D F H, DAt D F (upd H D (new D)) []
  hold : ∀ D F H acc, DAt D F H acc → ∃ o, H D = some o ∧ ∀ ps, o ≠ .tbl ps
  stay : ∀ D F H F' H' acc, DAt D F H acc → Mo F H F' H' → (∀ o, H D = some o → (∀ ps, o ≠ .tbl ps) → H' D = some o) → DAt D F' H' acc
  add : ∀ D F H acc y v Nx, DAt D F H acc → (∃ rest, acc ++ [y] ++ rest = tot) → Rep G.t G.sc F H v y → (∀ o, (Mo F H F (upd H D o) → DAt D F (upd H D o) (acc ++ [y])) → Nx (upd H D o)) → step D v H Nx
section
variable {Ps : Tb} {O : List Nat} {ms ms1 : AM} {g g1 : GM} {mt mt1 : BM} {me : EM} {vs vs1 : List Nat}
structure StpD (G : Gx) (D : Addr) (F : Addr → Prop) (H : Hp) (F' : Addr → Prop) (H' : Hp) : Prop where
  mo : Mo F H F' H'
  ow : ∀ a u, a ≠ D → ¬ F a → a ≠ G.t → G.H0 a = none → H a = some u → (∀ ps, u ≠ .tbl ps) → ¬ F' a ∧ H' a = some u
theorem StpD.of {G : Gx} {D : Addr} {F F' : Addr → Prop} {H H' : Hp} (s : Stp G F H F' H') : StpD G D F H F' H' := ⟨s.mo, fun a u _ => s.ow a u⟩
theorem StpD.trans {G : Gx} {D : Addr} {F F' F'' : Addr → Prop} {H H' H'' : Hp} (a : StpD G D F H F' H') (b : StpD G D F' H' F'' H'') : StpD G D F H F'' H'' := ⟨a.mo.trans b.mo, fun x u d n t z h q => let ⟨n1, h1⟩ := a.ow x u d n t z h q; b.ow x u d n1 t z h1 q⟩
end
end UM
set_option linter.all false
set_option Elab.async false
set_option maxRecDepth 100000
set_option maxHeartbeats 1000000
namespace UM
open PySem L2
section
variable {X : Cx} {Ps : Tb} {Ob O O' O1 O2 : List Nat} {ms ms1 : AM} {pos cpos : Pos} {tg iter tg1 iter1 elt : Expr} {ifs ifs1 : List Expr} {scope : Scope} {own : List (Str × Nat)} {g g1 : GM} {mt mt1 : BM} {me : EM} {vs vs1 : List Nat}
end
end UM
set_option linter.all false
set_option Elab.async false
set_option maxRecDepth 100000
set_option maxHeartbeats 1000000
namespace UM
open PySem L2
section
variable {X : Cx} {Ps : Tb} {Ob O O' : List Nat} {a b : Expr} {ma mb : EM} {pos : Pos} {st : Stmt}
end
end UM
set_option linter.all false
set_option Elab.async false
namespace Cm
open PySem L2 UM
def m_store_of (ns : List Int) : SM := (sSeq (sAsg 1 (eLc (aItems (eFn fSorted (aCons (eVar 0) aNil))) [2] (gNm 2) (bVal (eBin fNe (eIdx ns (eVar 0) (eVar 2)) (eC (.int 0)))) (eVar 2))) (sRet (eTupG (aItems (eVar 1)) [2] (gNm 2) bYes (eTup (aCons (eVar 2) (aCons (eIdx ns (eVar 0) (eVar 2)) aNil))))))
def mf_store_of (ns : List Int) : List U → Nat → Option (U × Nat) := runM 3 (m_store_of ns)
def m_worth_of (ns : List Int) : SM := (sSeq (sAsgG (gTp 2 (gsCons (gNm 2) (gsCons (gNm 3) gsNil))) (eVar 0)) (sRet (eBin fAdd (eVar 2) (eFn fSum (aCons (eLc (aItems (eVar 3)) [4, 5] (gTp 2 (gsCons (gNm 4) (gsCons (gNm 5) gsNil))) bYes (eBin fMul (eVar 5) (eGet (eVar 1) (eVar 4) (eC (.int 0))))) aNil)))))
def mf_worth_of (ns : List Int) : List U → Nat → Option (U × Nat) := runM 6 (m_worth_of ns)
def m_with_parts (ns : List Int) : SM := (sSeq (sAsg 2 (eFn fDict (aCons (eVar 0) aNil))) (sSeq (sAsg 3 (eFn fDict (aCons (eVar 0) aNil))) (sSeq (sFor (aItems (eVar 1)) (gTp 2 (gsCons (gNm 4) (gsCons (gNm 5) gsNil))) (sDput 3 (eVar 4) (eCallN 2 (mf_worth_of ns) (aCons (eVar 5) (aCons (eVar 2) aNil))))) (sRet (eCallN 1 (mf_store_of ns) (aCons (eVar 3) aNil))))))
def mf_with_parts (ns : List Int) : List U → Nat → Option (U × Nat) := runM 6 (m_with_parts ns)
def m_done (ns : List Int) : SM := (sSeq (sAsgG (gTp 3 (gsCons (gNm 2) (gsCons (gNm 3) (gsCons (gNm 4) gsNil)))) (eVar 1)) (sRet (eCallN 2 (mf_with_parts ns) (aCons (eVar 0) (aCons (eVar 4) aNil)))))
def mf_done (ns : List Int) : List U → Nat → Option (U × Nat) := runM 5 (m_done ns)
def m__law_draw (ns : List Int) : SM := (sSeq (sDrop (eTown 1 (eC (.int 0)))) (sSeq (sAsg 3 (eLen ns (eVar 1))) (sSeq (sAsg 4 (eC (.int 0))) (sSeq (sIf (bTru ns (eVar 0)) (sAsg 4 (eIdx ns (eVar 0) (eBin fMod (eVar 3) (eLen ns (eVar 0))))) sSkip) (sSeq (sAsg 5 (eBin fMod (eBin fAdd (eVar 4) (eBin fMul (eC (.int 104729)) (eVar 3))) (eC (.int 4294967291)))) (sSeq (sAsg 5 (eBin fMod (eBin fMul (eBin fMod (eBin fMul (eVar 5) (eVar 5)) (eC (.int 4294967279))) (eC (.int 48271))) (eC (.int 4294967291)))) (sSeq (sAsg 6 (eBin fMod (eBin fMul (eBin fMod (eBin fMul (eVar 5) (eVar 5)) (eC (.int 4294967279))) (eC (.int 69621))) (eC (.int 4294967291)))) (sRet (eBin fMod (eBin fAdd (eBin fMul (eBin fDiv (eVar 5) (eC (.int 64))) (eC (.int 67108864))) (eBin fDiv (eVar 6) (eC (.int 64)))) (eVar 2))))))))))
def mf__law_draw (ns : List Int) : List U → Nat → Option (U × Nat) := runM 7 (m__law_draw ns)
def m__law_pick (ns : List Int) : SM := (sRet (eIdx ns (eVar 2) (eCallN 3 (mf__law_draw ns) (aCons (eVar 0) (aCons (eVar 1) (aCons (eLen ns (eVar 2)) aNil))))))
def mf__law_pick (ns : List Int) : List U → Nat → Option (U × Nat) := runM 3 (m__law_pick ns)
def m__law_mixed (ns : List Int) : SM := (sSeq (sPar 3 4 (aCons (eFn fList (aCons (eVar 2) aNil)) (aCons (eLst aNil) aNil))) (sSeq (sWhile (bTru ns (eVar 3)) (sAppPop 4 3 (eImm (eCallN 3 (mf__law_draw ns) (aCons (eVar 0) (aCons (eVar 1) (aCons (eLen ns (eVar 3)) aNil))))))) (sRet (eVar 4))))
def mf__law_mixed (ns : List Int) : List U → Nat → Option (U × Nat) := runM 5 (m__law_mixed ns)
def m__law_form (ns : List Int) : SM := (sSeq (sPar 3 4 (aCons (eTup aNil) (aCons (eCallN 3 (mf__law_pick ns) (aCons (eVar 0) (aCons (eVar 1) (aCons (eLst (aCons (eC (.int 2)) (aCons (eC (.int 6)) (aCons (eC (.int 12)) (aCons (eC (.int 30)) aNil))))) aNil)))) aNil))) (sSeq (sFor (aItems (eVar 2)) (gNm 5) (sIf (bVal (eBin fEq (eCallN 3 (mf__law_draw ns) (aCons (eVar 0) (aCons (eVar 1) (aCons (eVar 4) aNil)))) (eC (.int 0)))) (sSeq (sAsg 6 (eCallN 3 (mf__law_pick ns) (aCons (eVar 0) (aCons (eVar 1) (aCons (eLst (aCons (eC (.int 1)) (aCons (eC (.int 1)) (aCons (eUn fNeg (eC (.int 1))) (aCons (eC (.int 9)) (aCons (eUn fNeg (eC (.int 9))) (aCons (eBin fAdd (eC (.int 1)) (eCallN 3 (mf__law_draw ns) (aCons (eVar 0) (aCons (eVar 1) (aCons (eC (.int 8)) aNil))))) aNil))))))) aNil))))) (sAsg 3 (eBin fAdd (eVar 3) (eTup (aCons (eTup (aCons (eVar 5) (aCons (eVar 6) aNil))) aNil))))) sSkip)) (sRet (eTup (aCons (eCallN 3 (mf__law_pick ns) (aCons (eVar 0) (aCons (eVar 1) (aCons (eLst (aCons (eC (.int 0)) (aCons (eC (.int 0)) (aCons (eC (.int 1)) (aCons (eC (.int 99)) (aCons (eUn fNeg (eC (.int 99))) (aCons (eBin fSub (eCallN 3 (mf__law_draw ns) (aCons (eVar 0) (aCons (eVar 1) (aCons (eC (.int 199)) aNil)))) (eC (.int 99))) aNil))))))) aNil)))) (aCons (eVar 3) aNil))))))
def mf__law_form (ns : List Int) : List U → Nat → Option (U × Nat) := runM 7 (m__law_form ns)
def m__law_row (ns : List Int) : SM := (sSeq (sAsg 3 (eCallN 3 (mf__law_pick ns) (aCons (eVar 0) (aCons (eVar 1) (aCons (eLst (aCons (eC (.str "ab")) (aCons (eC (.str "cdef")) (aCons (eC (.str "abcdefgh")) (aCons (eC (.str "abcdefgh")) (aCons (eC (.str "abcdefgh")) aNil)))))) aNil))))) (sSeq (sAsg 4 (eCallN 3 (mf__law_mixed ns) (aCons (eVar 0) (aCons (eVar 1) (aCons (eLst (aCons (eC (.str "a")) (aCons (eC (.str "b")) (aCons (eC (.str "bb")) (aCons (eC (.str "c")) (aCons (eC (.str "ft")) (aCons (eC (.str "hed")) (aCons (eC (.str "j")) (aCons (eC (.str "mlsp")) (aCons (eC (.str "q")) (aCons (eC (.str "uvwy")) (aCons (eC (.str "x")) (aCons (eC (.str "zzzz")) aNil))))))))))))) aNil))))) (sSeq (sAsg 5 (eTup aNil)) (sSeq (sFor (aRng1 (eCallN 3 (mf__law_draw ns) (aCons (eVar 0) (aCons (eVar 1) (aCons (eBin fAdd (eVar 2) (eC (.int 1))) aNil))))) (gNm 6) (sSeq (sAsg 7 (eCallN 3 (mf__law_pick ns) (aCons (eVar 0) (aCons (eVar 1) (aCons (eLst (aCons (eC (.int 1)) (aCons (eC (.int 1)) (aCons (eC (.int 1)) (aCons (eC (.int 1)) (aCons (eC (.int 2)) (aCons (eC (.int 3)) (aCons (eC (.int 4)) aNil)))))))) aNil))))) (sSeq (sAsg 8 (eFn fDict (aCons (eLc (aRng1 (eVar 7)) [9] (gNm 9) bYes (eTup (aCons (eCallN 3 (mf__law_pick ns) (aCons (eVar 0) (aCons (eVar 1) (aCons (eVar 3) aNil)))) (aCons (eC (.int 0)) aNil)))) aNil))) (sSeq (sAsg 10 (eFn fTuple (aCons (eLc (aItems (eFn fSorted (aCons (eVar 8) aNil))) [11] (gNm 11) bYes (eTup (aCons (eVar 11) (aCons (eCallN 3 (mf__law_form ns) (aCons (eVar 0) (aCons (eVar 1) (aCons (eVar 3) aNil)))) aNil)))) aNil))) (sAsg 5 (eBin fAdd (eVar 5) (eTup (aCons (eTup (aCons (eIdx ns (eVar 4) (eVar 6)) (aCons (eBin fAdd (eC (.int 1)) (eCallN 3 (mf__law_draw ns) (aCons (eVar 0) (aCons (eVar 1) (aCons (eC (.int 9)) aNil))))) (aCons (eVar 10) aNil)))) aNil)))))))) (sRet (eVar 5))))))
def mf__law_row (ns : List Int) : List U → Nat → Option (U × Nat) := runM 12 (m__law_row ns)
def m__law_store (ns : List Int) : SM := (sSeq (sAsg 2 (eTup aNil)) (sSeq (sFor (aItems (eC (.str "abcdefgh"))) (gNm 3) (sSeq (sAsg 4 (eCallN 3 (mf__law_pick ns) (aCons (eVar 0) (aCons (eVar 1) (aCons (eLst (aCons (eC (.int 0)) (aCons (eC (.int 0)) (aCons (eC (.int 1)) (aCons (eUn fNeg (eC (.int 1))) (aCons (eC (.int 5)) (aCons (eC (.int 1000)) (aCons (eUn fNeg (eC (.int 77))) aNil)))))))) aNil))))) (sAsg 2 (eBin fAdd (eVar 2) (eIf (bVal (eBin fNe (eVar 4) (eC (.int 0)))) (eTup (aCons (eTup (aCons (eVar 3) (aCons (eVar 4) aNil))) aNil)) (eTup aNil)))))) (sRet (eVar 2))))
def mf__law_store (ns : List Int) : List U → Nat → Option (U × Nat) := runM 5 (m__law_store ns)
def m_run (ns : List Int) : SM := (sSeq (sFor (aItems (eVar 1)) (gNm 2) (sAsg 0 (eCallN 2 (mf_done ns) (aCons (eVar 0) (aCons (eVar 2) aNil))))) (sRet (eVar 0)))
def mf_run (ns : List Int) : List U → Nat → Option (U × Nat) := runM 3 (m_run ns)
def m_worth_at (ns : List Int) : SM := (sRet (eGet (eFn fDict (aCons (eVar 0) aNil)) (eVar 1) (eC (.int 0))))
def mf_worth_at (ns : List Int) : List U → Nat → Option (U × Nat) := runM 2 (m_worth_at ns)
end Cm
set_option linter.all false
set_option Elab.async false
namespace Cm
open PySem L2 UM
def m_writes (ns : List Int) : SM := (sSeq (sAsgG (gTp 3 (gsCons (gNm 1) (gsCons (gNm 2) (gsCons (gNm 3) gsNil)))) (eVar 0)) (sRet (eTupG (aItems (eVar 3)) [4, 5] (gTp 2 (gsCons (gNm 4) (gsCons (gNm 5) gsNil))) bYes (eVar 4))))
def mf_writes (ns : List Int) : List U → Nat → Option (U × Nat) := runM 6 (m_writes ns)
end Cm
set_option linter.all false
set_option Elab.async false
set_option maxRecDepth 100000
set_option maxHeartbeats 1000000
namespace ZT
open PySem L2 PySem.Spec PyProof.Rows
open Sem (wp)
open AutoSeq1 (wpAny_loadPart')
structure Ap (z U i j : Addr) (f1 f2 : List Addr) : Prop where
  Uz : U ≠ z
  iz : i ≠ z
  jz : j ≠ z
  Ui : U ≠ i
  Uj : U ≠ j
  ij : i ≠ j
  z1 : z ∉ f1
  z2 : z ∉ f2
  u1 : U ∉ f1
  u2 : U ∉ f2
  j1 : j ∉ f1
  i2 : i ∉ f2
section
variable {P : Program} {w : World} {A : Around} {E : Value → Shared → Prop} {s : Shared} {z T U i j : Addr} {f1 f2 : List Addr} {n m k : Nat} {P1 P2 : Nat → Value → Prop} {S1 S2 : Nat → Heap → Prop} {a b : Value}
end
end ZT
set_option linter.all false
set_option Elab.async false
set_option maxRecDepth 100000
set_option maxHeartbeats 1000000
namespace ZT
open PySem L2 PySem.Spec PyProof.Rows
open Sem (wp)
end ZT
namespace UM
open PySem L2
section
variable {X : Cx} {Ps : Tb} {O : List Nat} {a b : Expr} {ma mb : EM} {pos : Pos}
end
end UM
set_option linter.all false
set_option Elab.async false
set_option maxRecDepth 100000
set_option maxHeartbeats 1000000
namespace UM
open PySem L2
end UM
set_option linter.all false
set_option Elab.async false
set_option maxRecDepth 100000
set_option maxHeartbeats 1000000
namespace UM
open PySem L2
inductive Pth where
  | v (i : Nat) | ix (p : Pth) (j : Nat)
def PV (σ : St) (H : Hp) : Pth → V → Prop
  | .v i, x => σ[i]? = some (some x)
  | .ix p j, x => ∃ a vs, PV σ H p (.ref a) ∧ H a = some (.tup vs) ∧ vs[j]? = some x
structure PLV (X : Cx) (p : Pth) (e : Expr) : Prop where
  pe : PE X e fun σ H Q => ∃ v, PV σ H p v ∧ Q v H
section
variable {X : Cx} {Ps : Tb} {Ob O O' O1 O2 : List Nat} {a b c : Expr} {pos cpos : Pos} {tg : Expr} {iter elt : Expr} {ifs : List Expr} {scope : Scope} {own : List (Str × Nat)} {g : GM} {mt : BM} {me mk : EM} {vs : List Nat} {p : Pth}
end
end UM
set_option linter.all false
set_option Elab.async false
namespace Cm
open PySem L2 UM
def m_form_of (ns : List Int) : SM := (sSeq (sAsg 2 (eLc (aItems (eFn fSorted (aCons (eVar 1) aNil))) [3] (gNm 3) (bVal (eBin fNe (eIdx ns (eVar 1) (eVar 3)) (eC (.int 0)))) (eVar 3))) (sRet (eTup (aCons (eVar 0) (aCons (eTupG (aItems (eVar 2)) [3] (gNm 3) bYes (eTup (aCons (eVar 3) (aCons (eIdx ns (eVar 1) (eVar 3)) aNil)))) aNil)))))
def mf_form_of (ns : List Int) : List U → Nat → Option (U × Nat) := runM 4 (m_form_of ns)
def m_plus (ns : List Int) : SM := (sSeq (sAsg 2 (eFn fDict (aCons (eIdx ns (eVar 0) (eC (.int 1))) aNil))) (sSeq (sFor (aItems (eIdx ns (eVar 1) (eC (.int 1)))) (gTp 2 (gsCons (gNm 3) (gsCons (gNm 4) gsNil))) (sDput 2 (eVar 3) (eImm (eBin fAdd (eGet (eVar 2) (eVar 3) (eC (.int 0))) (eVar 4))))) (sRet (eCallN 2 (mf_form_of ns) (aCons (eBin fAdd (eIdx ns (eVar 0) (eC (.int 0))) (eIdx ns (eVar 1) (eC (.int 0)))) (aCons (eVar 2) aNil))))))
def mf_plus (ns : List Int) : List U → Nat → Option (U × Nat) := runM 5 (m_plus ns)
def m_times (ns : List Int) : SM := (sSeq (sAsgG (gTp 2 (gsCons (gNm 2) (gsCons (gNm 3) gsNil))) (eVar 0)) (sRet (eCallN 2 (mf_form_of ns) (aCons (eBin fMul (eVar 2) (eVar 1)) (aCons (eDc (aItems (eVar 3)) [4, 5] (gTp 2 (gsCons (gNm 4) (gsCons (gNm 5) gsNil))) bYes (eVar 4) (eBin fMul (eVar 5) (eVar 1))) aNil)))))
def mf_times (ns : List Int) : List U → Nat → Option (U × Nat) := runM 6 (m_times ns)
def m_form_of_cell (ns : List Int) : SM := (sRet (eTup (aCons (eC (.int 0)) (aCons (eTup (aCons (eTup (aCons (eVar 0) (aCons (eC (.int 1)) aNil))) aNil)) aNil))))
def mf_form_of_cell (ns : List Int) : List U → Nat → Option (U × Nat) := runM 1 (m_form_of_cell ns)
def m_put_in (ns : List Int) : SM := (sSeq (sAsgG (gTp 2 (gsCons (gNm 2) (gsCons (gNm 3) gsNil))) (eVar 0)) (sSeq (sAsg 4 (eTup (aCons (eVar 2) (aCons (eTup aNil) aNil)))) (sSeq (sFor (aItems (eVar 3)) (gTp 2 (gsCons (gNm 5) (gsCons (gNm 6) gsNil))) (sAsg 4 (eCallN 2 (mf_plus ns) (aCons (eVar 4) (aCons (eCallN 2 (mf_times ns) (aCons (eGet (eVar 1) (eVar 5) (eCallN 1 (mf_form_of_cell ns) (aCons (eVar 5) aNil))) (aCons (eVar 6) aNil))) aNil))))) (sRet (eVar 4)))))
def mf_put_in (ns : List Int) : List U → Nat → Option (U × Nat) := runM 7 (m_put_in ns)
end Cm
set_option linter.all false
set_option Elab.async false
set_option maxRecDepth 100000
set_option maxHeartbeats 1000000
namespace UM
open PySem L2
section
variable {X : Cx} {Ps : Tb} {Ob O O' : List Nat} {a b : Expr} {ma mb : EM} {pos : Pos}
end
end UM
set_option linter.all false
set_option Elab.async false
set_option maxRecDepth 100000
set_option maxHeartbeats 1000000
namespace UM
open PySem L2
end UM
set_option linter.all false
set_option Elab.async false
set_option maxRecDepth 100000
set_option maxHeartbeats 1000000
namespace UM
open PySem L2
section
variable {X : Cx} {Ps : Tb} {O : List Nat} {a b : Expr} {ma mb : EM} {pos : Pos}
end
end UM
set_option linter.all false
set_option Elab.async false
set_option maxRecDepth 100000
set_option maxHeartbeats 1000000
namespace L2
open PySem PySem.Spec PyProof.Rows
section
variable {X : Cx}
def rUpd : V → List V → Hp → VK → Prop := fun x vs H Q => ∃ d b kvs more, x = .ref d ∧ vs = [.ref b] ∧ d ≠ b ∧ H d = some (.dK kvs) ∧ Rd H b (.dK more) ∧ kvs.length + more.length ≤ sizeLine ∧ Q .non (upd H d (.dK (mergeK kvs more)))
theorem mt_update : MtM X "dict.update" rUpd := by
  intro pins s σ H x vs v us Q I rx rv h
  obtain ⟨d, b, kvs, more, rfl, rfl, hne, hd, hb, hz, q⟩ := h
  cases rx
  obtain ⟨u, rfl, ru⟩ := rv.one
  cases ru
  obtain ⟨z, hs, ws, rel, dd⟩ := dk_of I.hok hd
  obtain ⟨z2, hs2, ws2, rel2, dd2⟩ := dk_rd I.hok hb
  refine call_meetsIn PySem.F.slot_dict_update dd.typeIs PySem.F.entry_dict_update (PySem.F.args_dict_update_2 _ _) (meets_dict_update (mixKind X.prog X.w) d b hne hs2)
    ⟨ws, ws2, dd, dd2, by rw [← rel.length, ← rel2.length]; exact hz, fun h' dd' _ hsb => ⟨.non, _, ?_, rfl, q⟩⟩
  have he : ∃ q, h'.get? d = some q := let ⟨q, _, _, hq, _⟩ := dd'; ⟨q, hq⟩
  exact d_write (t' := s.toks) I (by rw [hd]; exact True.intro) hsb he (dk_new (Nat.le_trans (length_mergeK more kvs) hz) hs (KV.merge rel2 rel) dd')
end
end L2
namespace UM
open PySem L2
def kimms : List (Key × U) → Bool
  | [] => true
  | kv :: r => imm kv.2 && kimms r
theorem RepK.imm {t sc : Addr} {F F' : Addr → Prop} {H : Hp} (m : ∀ a, F a → (∃ vs, H a = some (.tup vs)) → F' a) : ∀ {vs : List (Key × V)} {us : List (Key × U)}, RepK t sc F H vs us → kimms us = true → RepK t sc F' H vs us
  | _, _, .nil, _ => .nil
  | _, _, .cons h r, q => by
    rw [kimms, Bool.and_eq_true] at q
    exact .cons (Rep.imm h q.1 m) (RepK.imm m r q.2)
def sUpd (i : Nat) (e : EM) : SM := fun env n => (e env n).bind fun x => match x.1, env[i]? with
  | .dct more, some (some (.dct kvs)) => if kimms more = true ∧ kvs.length + more.length < 1000 then some (.nx (env.set i (some (.dct (kmerge kvs more)))), x.2) else none
  | _, _ => none
section
variable {X : Cx} {Ps : Tb} {Ob O O' O1 O2 : List Nat} {a b c : Expr} {es : List Expr} {ma mb mc : EM} {ms : AM} {pos cpos : Pos} {st : Stmt} {sts : List Stmt} {m1 m2 : SM} {tg : Expr} {iter elt : Expr} {ifs : List Expr} {scope : Scope} {own : List (Str × Nat)} {g : GM} {mt : BM} {me mk : EM} {vs : List Nat}
theorem pef_dc {kx vx : Expr} (hc : X.calm = true) (hN : X.N.Nodup) (hi : PIV X Ps O tg iter ms) (ok : BlkOk X.N X.env.scope scope own) (hv : vs = own.map (·.2)) (go : GOnly vs g)
    (hg : ∀ (s : Shared) (H : Hp) (C : Addr) (cl : List (Str × Addr)) (fp : List Addr), PGV (X.blk s H scope (compEnvC scope cl C X.env) fp) O vs tg g) (ht : ∀ (s : Shared) (H : Hp) (C : Addr) (cl : List (Str × Addr)) (fp : List Addr), PTsV (X.blk s H scope (compEnvC scope cl C X.env) fp) Ps O ifs mt)
    (hk : ∀ (s : Shared) (H : Hp) (C : Addr) (cl : List (Str × Addr)) (fp : List Addr), PEV (X.blk s H scope (compEnvC scope cl C X.env) fp) Ps O kx mk) (he : ∀ (s : Shared) (H : Hp) (C : Addr) (cl : List (Str × Addr)) (fp : List Addr), PEV (X.blk s H scope (compEnvC scope cl C X.env) fp) Ps O vx me) (hs : ∀ x, foldedSetIterable iter X.env x = pure x := by intro _; rfl) :
    PEF X Ps O (.DictComp kx vx [⟨tg, iter, ifs, 0⟩] scope pos) (eDc ms vs g mt mk me) := by
  subst hv
  refine ⟨impE (pe_dc (g := tMG O (own.map (·.2)) g) (tt := tMB X.K Ps O mt) (te := tM X.K Ps O mk) (tv := tM X.K Ps O me) hc hN hi.pi ok (fun s H C cl fp => (hg s H C cl fp).pg) (fun s H C cl fp => (ht s H C cl fp).pt) (fun s H C cl fp => (hk s H C cl fp).pe) (fun s H C cl fp => (he s H C cl fp).pe) hs) fun σ H Q hq => ?_⟩
  obtain ⟨G, F, env, k, u, k', S, hm, q⟩ := hq
  obtain ⟨⟨us, k1⟩, e1, hm⟩ := ob hm
  obtain ⟨⟨tot, kf⟩, e2, hm⟩ := ob hm
  cases hm
  refine dc_imp go ⟨G, F, env, k, us, k1, S, e1, tot, _, e2, fun D H' F' kvs B st nF nt n0 hj hfr hD r => ?_⟩
  exact q D H' F' (S.step st B) st ⟨nF, nt, n0, kvs, hD, r⟩ hj
theorem psv_upd (i : Nat) {x : Str} {px apos : Pos} (hi : i ∈ O) (hO : ∀ j, j ∈ O' ↔ (j ∈ O ∧ j ≠ i)) (ha : PEF X Ps O' a ma) (hN : X.N[i]? = some x := by rfl) (hvis : Vis X.env.scope x := by first | exact Or.inl rfl | exact Or.inr (Or.inl rfl) | exact Or.inr (Or.inr rfl)) (hd : (x == ("__debug__" : Str)) = false := by decide)
    (hcd : (x == ("__classdict__" : Str)) = false := by decide) (hbase : attributeBase (.Name x px) "update" X.env (eval (.Name x px) X.env) = eval (.Name x px) X.env := by rfl)
    (hfew : ((backTo cpos (starEach [a] X.env)).all (fun x => !x.1) && (backToKw cpos (keywordEach [] X.env)).all (fun x => x.1.isSome) && decide (([a] : List Expr).length + ([] : List Keyword).length + (if ([] : List Keyword).isEmpty then 0 else 1) < 30)) = true := by rfl)
    (hline : (apos.endLine == cpos.line) = true := by rfl) (hs : starEach [a] X.env = (false, eval a X.env) :: starEach [] X.env := by rfl) (hsw : swapsWith (.Call (.Attribute (.Name x px) "update" apos) [a] [] cpos) none pos.line X.env = pure false := by rfl) :
    PSV X Ps Ob O O (.Expr (.Call (.Attribute (.Name x px) "update" apos) [a] [] cpos) pos) (sUpd i ma) := by
  refine ⟨impS (ps_expr (pe_bm (es := []) PySem.F.plainAttrs_dict PySem.F.slot_dict_update PySem.F.type_dict_update mt_update (pv i hN hvis hd hcd) (pa_cons ha.pe pa_nil hs) hbase hfew hline hs rfl) hsw) fun D σ H hq => ?_⟩
  obtain ⟨G, F, env, k, c, k', S, hm, q⟩ := hq
  obtain ⟨⟨y, k1⟩, h1, hm⟩ := ob hm
  dsimp only at hm
  split at hm
  · rename_i more kus ee
    split at hm
    · rename_i hc
      injection hm with hm
      injection hm with hc2 hk
      subst hc2 hk
      obtain ⟨ad, ea, o⟩ := S.ow i hi _ ee
      obtain ⟨l0, hl0, _⟩ := o.c
      obtain ⟨F', S', mo, h⟩ := S.lend i hO
      refine ⟨_, ea, .inr (.inr (.inl ⟨rfl, .inl ⟨l0, hl0⟩⟩)), G, F', env, k, .dct more, k1, S', h1, fun b H1 F1 S1 st1 o1 _ => ?_⟩
      obtain ⟨v1, sl1, rp1⟩ := S'.sl i _ (fun z => ((hO i).mp z).2 rfl) ee
      rw [ea] at sl1
      cases sl1
      have f1 : F' ad := by
        cases rp1 with
        | dct f _ _ => exact f
      rcases h with h | ⟨p, w, iff, nF, nt, n0, hp, hnt, hnp⟩
      · exact absurd ((h ad).mp f1) o.nF
      · have ep : ad = p := ((iff ad).mp f1).elim (fun z => absurd z o.nF) id
        subst ep
        obtain ⟨B2, st2, hp2⟩ := unlend S.b iff nF n0 hp hnp st1 S1.b
        have S2 := S.step st2 B2
        obtain ⟨ad2, ea2, o2⟩ := S2.ow i hi _ ee
        rw [ea] at ea2; cases ea2
        obtain ⟨kvs, hk, r⟩ := o2.c
        obtain ⟨kvs', hk', r'⟩ := o1.c
        have hne : ad ≠ b := fun z => o1.nF (z ▸ st1.mo.f ad f1)
        have r2 := RepK.imm (F' := fun a => F1 a ∧ a ≠ ad) (fun x f ⟨vs, e⟩ => ⟨f, fun z => by subst z; rw [hp2] at e; cases e; exact hnp _ rfl⟩) r' hc.1
        refine ⟨ad, b, kvs, kvs', rfl, rfl, hne, hk, .inl hk', by rw [r.length, r'.length]; exact Nat.le_of_lt (small1000 (Nat.le_of_lt hc.2)), ?_⟩
        obtain ⟨S3, mo3⟩ := S2.mut (u' := .dct (kmerge kus more)) (o := .dK (mergeK kvs kvs')) hi ee ea o2 fun mo => ⟨_, upd_same, (r2.merge r).mono mo⟩
        exact q _ _ _ S3 (st2.mo.trans mo3)
    · cases hm
  · cases hm
end
end UM
set_option linter.all false
set_option Elab.async false
set_option maxRecDepth 100000
set_option maxHeartbeats 1000000
namespace UM
open PySem L2
section
variable {X : Cx} {Ps : Tb} {Ob O O' O1 O2 : List Nat} {a b c : Expr} {es : List Expr} {ma mb mc : EM} {ms : AM} {pos cpos : Pos} {st : Stmt} {sts : List Stmt} {m1 m2 : SM}
theorem own_step {G : Gx} {F F' : Addr → Prop} {H H' : Hp} {p : Addr} {u : U} (o : Own G F H p u) (m : Stp G F H F' H') : Own G F' H' p u := by
  obtain ⟨n1, c1⟩ := o.c.step m o.nF o.nt o.n0
  exact ⟨n1, o.nt, o.n0, c1⟩
theorem psv_parG (i j : Nat) {x y : Str} {px py pt : Pos} {kt k2 pt2} (hc : X.calm = true) (hN : X.N.Nodup) (hij : i ≠ j) (hj : j ∉ O) (hO2 : ∀ n, n ∈ O2 ↔ (n ∈ O ∨ n = i)) (ha : PEF X Ps O a ma) (hb : PEV X Ps O b mb)
    (hsa : starEach [a, b] X.env = (false, eval a X.env) :: starEach [b] X.env := by rfl) (hsb : starEach [b] X.env = (false, eval b X.env) :: starEach [] X.env := by rfl) (hix : X.N[i]? = some x := by rfl) (hjy : X.N[j]? = some y := by rfl)
    (hx : Loc X.env.scope x := by first | exact .inl rfl | exact .inr rfl) (hfx : X.fn x = true ∨ X.env.scope.names.lookup x = some .local := by first | exact .inl rfl | exact .inr rfl | assumption)
    (hy : Loc X.env.scope y := by first | exact .inl rfl | exact .inr rfl) (hfy : X.fn y = true ∨ X.env.scope.names.lookup y = some .local := by first | exact .inl rfl | exact .inr rfl | assumption)
    (hs : swapsWithSole [.Tuple [.Name x px, .Name y py] kt pt] (.Tuple [a, b] k2 pt2) pos.line X.env = pure false := by rfl) (hw : swappedStores [.Tuple [.Name x px, .Name y py] kt pt] (.Tuple [a, b] k2 pt2) X.env = pure none := by rfl)
    (h1 : (assignEach [.Tuple [.Name x px, .Name y py] kt pt] X.env).map (·.2) = [assign (.Tuple [.Name x px, .Name y py] kt pt) X.env] := by rfl)
    (hg1 : (assignEach [.Name x px, .Name y py] X.env).map (·.2) = assign (.Name x px) X.env :: (assignEach [.Name y py] X.env).map (·.2) := by rfl) (hg2 : (assignEach [.Name y py] X.env).map (·.2) = assign (.Name y py) X.env :: (assignEach [] X.env).map (·.2) := by rfl)
    (hn : (assignEach [.Name x px, .Name y py] X.env).length = 2 := by rfl) (hst : (assignEach [.Name x px, .Name y py] X.env).findIdx? (·.1) = none := by rfl) :
    PSV X Ps Ob O O2 (.Assign [.Tuple [.Name x px, .Name y py] kt pt] (.Tuple [a, b] k2 pt2) pos) (sPar i j (aCons ma (aCons mb aNil))) :=
  ⟨impS (ps_asg (pe_tup (pa_cons ha.pe (pa_cons hb.pe pa_nil hsb) hsa)) (pg_tup (n := 2) hc (pgs_cons (pg_name hN hix hx hfx) (pgs_cons (pg_name hN hjy hy hfy) pgs_nil hg2) hg1) hn hst) hs hw h1) fun D σ H ⟨G, F, env, k, c, k', S, hm, q⟩ => by
  obtain ⟨⟨us, k1⟩, e1, hm⟩ := ob hm
  obtain ⟨⟨u, k2⟩, e2, e1⟩ := ob e1
  obtain ⟨⟨ws, k3⟩, e3, e1⟩ := ob e1
  obtain ⟨⟨w, k4⟩, e4, e3⟩ := ob e3
  cases e3
  cases e1
  cases hm
  refine ⟨G, F, env, k, u, k2, S, e2, fun p H1 F1 S1 m1 o1 f1 => ⟨G, F1, env, k2, w, k4, S1, e4, fun v H2 F2 S2 m2 r2 => ⟨by show 2 ≤ sizeLine; decide, fun t ht => ?_⟩⟩⟩
  obtain ⟨B3, _, _, _, _⟩ := S2.b.allocO (o := .tup [.ref p, v]) ht
  have st3 := stp_allocO (o := .tup [.ref p, v]) S2.b ht
  have S3 := S2.step st3 B3
  refine ⟨t, [.ref p, v], rfl, SqT.of upd_same, rfl, _, _, rfl, _, _, rfl, rfl, ?_⟩
  have S4 := S3.asgO (O' := O2) (i := i) hO2 (own_step (own_step o1 m2) st3) f1
  have hj2 : j ∉ O2 := fun z => ((hO2 j).mp z).elim hj (Ne.symm hij)
  exact q _ _ F2 (S4.put (i := j) hj2 (r2.mono st3.mo)) ((m1.mo.trans m2.mo).trans st3.mo)⟩
end
end UM
set_option linter.all false
set_option Elab.async false
namespace Cm
open PySem L2 UM
def m_forms_behind (ns : List Int) : SM := (sSeq (sAsg 1 (eC (.dct []))) (sSeq (sFor (aItems (eVar 0)) (gTp 3 (gsCons (gNm 2) (gsCons (gNm 3) (gsCons (gNm 4) gsNil)))) (sUpd 1 (eDc (aItems (eVar 4)) [5, 6] (gTp 2 (gsCons (gNm 5) (gsCons (gNm 6) gsNil))) bYes (eVar 5) (eCallN 2 (mf_put_in ns) (aCons (eVar 6) (aCons (eVar 1) aNil)))))) (sRet (eVar 1))))
def mf_forms_behind (ns : List Int) : List U → Nat → Option (U × Nat) := runM 7 (m_forms_behind ns)
def m_map_of (ns : List Int) : SM := (sSeq (sAsg 1 (eCallN 1 (mf_forms_behind ns) (aCons (eVar 0) aNil))) (sRet (eTupG (aItems (eFn fSorted (aCons (eVar 1) aNil))) [2] (gNm 2) (bVal (eBin fNe (eIdx ns (eVar 1) (eVar 2)) (eCallN 1 (mf_form_of_cell ns) (aCons (eVar 2) aNil)))) (eTup (aCons (eVar 2) (aCons (eIdx ns (eVar 1) (eVar 2)) aNil))))))
def mf_map_of (ns : List Int) : List U → Nat → Option (U × Nat) := runM 3 (m_map_of ns)
def m_is_idle (ns : List Int) : SM := (sRet (eBin fEq (eCallN 1 (mf_map_of ns) (aCons (eTup (aCons (eVar 0) aNil)) aNil)) (eTup aNil)))
def mf_is_idle (ns : List Int) : List U → Nat → Option (U × Nat) := runM 1 (m_is_idle ns)
def m_joined (ns : List Int) : SM := (sSeq (sAsg 3 (eCallN 1 (mf_forms_behind ns) (aCons (eVar 2) aNil))) (sRet (eTup (aCons (eVar 0) (aCons (eVar 1) (aCons (eTupG (aItems (eFn fSorted (aCons (eVar 3) aNil))) [4] (gNm 4) bYes (eTup (aCons (eVar 4) (aCons (eIdx ns (eVar 3) (eVar 4)) aNil)))) aNil))))))
def mf_joined (ns : List Int) : List U → Nat → Option (U × Nat) := runM 5 (m_joined ns)
def m_are_alike (ns : List Int) : SM := (sRet (eBin fEq (eCallN 1 (mf_map_of ns) (aCons (eVar 0) aNil)) (eCallN 1 (mf_map_of ns) (aCons (eVar 1) aNil))))
def mf_are_alike (ns : List Int) : List U → Nat → Option (U × Nat) := runM 2 (m_are_alike ns)
end Cm
set_option linter.all false
set_option Elab.async false
set_option maxRecDepth 100000
set_option maxHeartbeats 4000000
namespace K33
open PySem L2 UM Cm
def top (i : Nat) : Stmt := PySem.Challenge.pw_sidedeeds_k33_whole_maps_put_together.main.body.getD i (.Pass ⟨0, 0, 0, 0⟩)
abbrev s__law_draw : Stmt := top 22
abbrev s__law_pick : Stmt := top 23
abbrev s__law_mixed : Stmt := top 25
abbrev s__law_form : Stmt := top 24
abbrev s__law_row : Stmt := top 26
abbrev s_form_of : Stmt := top 1
abbrev s_plus : Stmt := top 3
abbrev s_times : Stmt := top 4
abbrev s_form_of_cell : Stmt := top 2
abbrev s_put_in : Stmt := top 5
abbrev s_forms_behind : Stmt := top 16
abbrev s_map_of : Stmt := top 17
abbrev s_is_idle : Stmt := top 19
abbrev s__law_both : Stmt := top 30
abbrev s_joined : Stmt := top 20
abbrev s__law_store : Stmt := top 27
abbrev s_are_alike : Stmt := top 18
abbrev s_writes : Stmt := top 8
abbrev s__law_written : Stmt := top 31
abbrev s_store_of : Stmt := top 10
abbrev s_worth_of : Stmt := top 6
abbrev s_with_parts : Stmt := top 12
abbrev s_done : Stmt := top 13
abbrev s_run : Stmt := top 14
abbrev s_worth_at : Stmt := top 11
abbrev s_law : Stmt := top 32
abbrev N__law_draw : List Str := ["_law_script", "_law_town", "_law_many", "_law_k", "_law_cell", "_law_number", "_law_more"]
theorem sc__law_draw : FnScope ["_law_script", "_law_town", "_law_many", "_law_k", "_law_cell", "_law_number", "_law_more"] ["_law_script", "_law_town", "_law_many"] (defScope s__law_draw) := ⟨rfl, rfl, rfl, by decide +kernel, rfl, by decide +kernel, by decide +kernel⟩
theorem ok__law_draw {P : Program} {w : World} {K : PySem.W.Frag} {mg : Str → Option Value} {base : Heap} {Ps : Tb} {f : Addr} {fd : FuncData} (F : Fun K "_law_draw" "_law_draw" s__law_draw f fd) (z_len : mg "len" = none) : FnOk P w K mg base CX0 1 f fd ["_law_script", "_law_town", "_law_many"] (spM K Ps 3 (mf__law_draw Ps.ns)) :=
  fn_M (N := N__law_draw) (O' := []) (m := m__law_draw Ps.ns) F sc__law_draw fun cdv A outer s H E hr => (pssv_cons (psv_expr (pev_town 1 (by decide) pev_int)) (pssv_cons (psv_asg (O' := []) 3 sc__law_draw.nd (oM (by decide)) (pev_len rfl z_len (pev_var 1 (by decide)))) (pssv_cons (psv_asg (O' := []) 4 sc__law_draw.nd (oM (by decide)) pev_int) (pssv_cons (psv_if (pbv_tru (pev_var 0 (by decide))) (pssv_one (psv_asg (O' := []) 4 sc__law_draw.nd (oM (by decide)) (pev_ix (hu_of hr) (pev_var 0 (by decide)) (pev_op op_mod opu_mod (pev_var 3 (by decide)) (pev_len rfl z_len (pev_var 0 (by decide)))) (fun _ _ => rfl)))) pssv_nil) (pssv_cons (psv_asg (O' := []) 5 sc__law_draw.nd (oM (by decide)) (pev_op op_mod opu_mod (pev_op op_addU (opu_add _) (pev_var 4 (by decide)) (pev_op op_mul opu_mul pev_int (pev_var 3 (by decide)))) pev_int)) (pssv_cons (psv_asg (O' := []) 5 sc__law_draw.nd (oM (by decide)) (pev_op op_mod opu_mod (pev_op op_mul opu_mul (pev_op op_mod opu_mod (pev_op op_mul opu_mul (pev_var 5 (by decide)) (pev_var 5 (by decide))) pev_int) pev_int) pev_int)) (pssv_cons (psv_asg (O' := []) 6 sc__law_draw.nd (oM (by decide)) (pev_op op_mod opu_mod (pev_op op_mul opu_mul (pev_op op_mod opu_mod (pev_op op_mul opu_mul (pev_var 5 (by decide)) (pev_var 5 (by decide))) pev_int) pev_int) pev_int)) (pssv_one (psv_ret (pev_op op_mod opu_mod (pev_op op_addU (opu_add _) (pev_op op_mul opu_mul (pev_op op_fdiv opu_div (pev_var 5 (by decide)) pev_int) pev_int) (pev_op op_fdiv opu_div (pev_var 6 (by decide)) pev_int)) (pev_var 2 (by decide))))))))))))
abbrev N__law_pick : List Str := ["_law_script", "_law_town", "_law_some"]
theorem sc__law_pick : FnScope ["_law_script", "_law_town", "_law_some"] ["_law_script", "_law_town", "_law_some"] (defScope s__law_pick) := ⟨rfl, rfl, rfl, by decide +kernel, rfl, by decide +kernel, by decide +kernel⟩
theorem ok__law_pick {P : Program} {w : World} {K : PySem.W.Frag} {mg : Str → Option Value} {base : Heap} {Ps : Tb} {f : Addr} {fd : FuncData} {f__law_draw : Addr} {fd__law_draw : FuncData} (F : Fun K "_law_pick" "_law_pick" s__law_pick f fd) (G__law_draw : FnOk P w K mg base CX0 1 f__law_draw fd__law_draw ["_law_script", "_law_town", "_law_many"] (spM K Ps 3 (mf__law_draw Ps.ns))) (b__law_draw : Binds K fd__law_draw ["_law_script", "_law_town", "_law_many"] []) (k__law_draw : PySem.W.keepIn K (.ref f__law_draw) = true) (m__law_draw : mg "_law_draw" = some (.ref f__law_draw)) (z_len : mg "len" = none) : FnOk P w K mg base CX0 2 f fd ["_law_script", "_law_town", "_law_some"] (spM K Ps 3 (mf__law_pick Ps.ns)) :=
  fn_M (N := N__law_pick) (O' := []) (m := m__law_pick Ps.ns) F sc__law_pick fun cdv A outer s H E hr => (pssv_one (psv_ret (pev_ix (hu_of hr) (pev_var 2 (by decide)) (pev_call G__law_draw (hr.mono (by decide)) rfl m__law_draw k__law_draw b__law_draw (pav_cons (pev_var 0 (by decide)) (pav_cons (pev_var 1 (by decide)) (pav_cons (pev_len rfl z_len (pev_var 2 (by decide))) pav_nil)))) (fun _ _ => rfl))))
abbrev N__law_mixed : List Str := ["_law_script", "_law_town", "_law_row_here", "_law_left", "_law_got"]
theorem sc__law_mixed : FnScope ["_law_script", "_law_town", "_law_row_here", "_law_left", "_law_got"] ["_law_script", "_law_town", "_law_row_here"] (defScope s__law_mixed) := ⟨rfl, rfl, rfl, by decide +kernel, rfl, by decide +kernel, by decide +kernel⟩
theorem ok__law_mixed {P : Program} {w : World} {K : PySem.W.Frag} {mg : Str → Option Value} {base : Heap} {Ps : Tb} {f : Addr} {fd : FuncData} {f__law_draw : Addr} {fd__law_draw : FuncData} (F : Fun K "_law_mixed" "_law_mixed" s__law_mixed f fd) (G__law_draw : FnOk P w K mg base CX0 1 f__law_draw fd__law_draw ["_law_script", "_law_town", "_law_many"] (spM K Ps 3 (mf__law_draw Ps.ns))) (b__law_draw : Binds K fd__law_draw ["_law_script", "_law_town", "_law_many"] []) (k__law_draw : PySem.W.keepIn K (.ref f__law_draw) = true) (m__law_draw : mg "_law_draw" = some (.ref f__law_draw)) (z_list : mg "list" = none) (z_len : mg "len" = none) : FnOk P w K mg base CX0 2 f fd ["_law_script", "_law_town", "_law_row_here"] (spM K Ps 3 (mf__law_mixed Ps.ns)) :=
  fn_M (N := N__law_mixed) (O' := []) (m := m__law_mixed Ps.ns) F sc__law_mixed fun cdv A outer s H E hr => (pssv_cons (psv_parOO (O1 := [3]) (O2 := [3, 4]) 3 4 rfl sc__law_mixed.nd (by decide) (oP (by decide)) (oP (by decide)) (pef_callT call_list_of (cf_list _) rfl z_list (by decide +kernel) (pav_cons (pev_var 2 (by decide)) pav_nil)) (pef2_lst pav_nil)) (pssv_cons (psv_while PassesOwn.never (pbv_borrow (O' := [4]) 3 (oM (by decide)) (pbv_tru (pev_var 3 (by decide)))) (pssv_one (psv_appPop 4 3 (by decide) (by decide) (by decide) (pev_lend (O' := [4]) 3 (oM (by decide)) (pev_call G__law_draw (hr.mono (by decide)) rfl m__law_draw k__law_draw b__law_draw (pav_cons (pev_var 0 (by decide)) (pav_cons (pev_var 1 (by decide)) (pav_cons (pev_len rfl z_len (pev_var 3 (by decide))) pav_nil)))))))) (pssv_one (psv_share (O' := [3]) 4 (oM (by decide)) (psv_ret (pev_var 4 (by decide)))))))
abbrev N__law_form : List Str := ["_law_script", "_law_town", "_law_cells", "_law_terms", "_law_thin", "_law_cell", "_law_many"]
theorem sc__law_form : FnScope ["_law_script", "_law_town", "_law_cells", "_law_terms", "_law_thin", "_law_cell", "_law_many"] ["_law_script", "_law_town", "_law_cells"] (defScope s__law_form) := ⟨rfl, rfl, rfl, by decide +kernel, rfl, by decide +kernel, by decide +kernel⟩
theorem ok__law_form {P : Program} {w : World} {K : PySem.W.Frag} {mg : Str → Option Value} {base : Heap} {Ps : Tb} {f : Addr} {fd : FuncData} {f__law_pick : Addr} {fd__law_pick : FuncData} {f__law_draw : Addr} {fd__law_draw : FuncData} (F : Fun K "_law_form" "_law_form" s__law_form f fd) (G__law_pick : FnOk P w K mg base CX0 2 f__law_pick fd__law_pick ["_law_script", "_law_town", "_law_some"] (spM K Ps 3 (mf__law_pick Ps.ns))) (b__law_pick : Binds K fd__law_pick ["_law_script", "_law_town", "_law_some"] []) (k__law_pick : PySem.W.keepIn K (.ref f__law_pick) = true) (m__law_pick : mg "_law_pick" = some (.ref f__law_pick)) (G__law_draw : FnOk P w K mg base CX0 1 f__law_draw fd__law_draw ["_law_script", "_law_town", "_law_many"] (spM K Ps 3 (mf__law_draw Ps.ns))) (b__law_draw : Binds K fd__law_draw ["_law_script", "_law_town", "_law_many"] []) (k__law_draw : PySem.W.keepIn K (.ref f__law_draw) = true) (m__law_draw : mg "_law_draw" = some (.ref f__law_draw)) : FnOk P w K mg base CX0 3 f fd ["_law_script", "_law_town", "_law_cells"] (spM K Ps 3 (mf__law_form Ps.ns)) :=
  fn_M (N := N__law_form) (O' := []) (m := m__law_form Ps.ns) F sc__law_form fun cdv A outer s H E hr => (pssv_cons (psv_par 3 4 rfl sc__law_form.nd (by decide) (by decide) (by decide) (pav_cons (pev_tup pav_nil) (pav_cons (pev_call G__law_pick (hr.mono (by decide)) rfl m__law_pick k__law_pick b__law_pick (pav_cons (pev_var 0 (by decide)) (pav_cons (pev_var 1 (by decide)) (pav_cons (pev_lst (pav_cons pev_int (pav_cons pev_int (pav_cons pev_int (pav_cons pev_int pav_nil))))) pav_nil)))) pav_nil))) (pssv_cons (psv_for (vs := [5]) PassesOwn.never rfl (piv_val (pev_var 2 (by decide))) (pgv_name 5 sc__law_form.nd (by decide) (by decide)) (pssv_one (psv_if (pbv_cmpR (op_eqD hr.units) (opu_eq _) (pev_call G__law_draw (hr.mono (by decide)) rfl m__law_draw k__law_draw b__law_draw (pav_cons (pev_var 0 (by decide)) (pav_cons (pev_var 1 (by decide)) (pav_cons (pev_var 4 (by decide)) pav_nil)))) pev_int (nomark _)) (pssv_cons (psv_asg (O' := []) 6 sc__law_form.nd (oM (by decide)) (pev_call G__law_pick (hr.mono (by decide)) rfl m__law_pick k__law_pick b__law_pick (pav_cons (pev_var 0 (by decide)) (pav_cons (pev_var 1 (by decide)) (pav_cons (pev_lst (pav_cons pev_int (pav_cons pev_int (pav_cons (pev_neg pev_int) (pav_cons pev_int (pav_cons (pev_neg pev_int) (pav_cons (pev_op op_addU (opu_add _) pev_int (pev_call G__law_draw (hr.mono (by decide)) rfl m__law_draw k__law_draw b__law_draw (pav_cons (pev_var 0 (by decide)) (pav_cons (pev_var 1 (by decide)) (pav_cons pev_int pav_nil))))) pav_nil))))))) pav_nil))))) (pssv_one (psv_asg (O' := []) 3 sc__law_form.nd (oM (by decide)) (pev_op op_addU (opu_add _) (pev_var 3 (by decide)) (pev_tup (pav_cons (pev_tup (pav_cons (pev_var 5 (by decide)) (pav_cons (pev_var 6 (by decide)) pav_nil))) pav_nil)))))) pssv_nil))) (pssv_one (psv_ret (pev_tup (pav_cons (pev_call G__law_pick (hr.mono (by decide)) rfl m__law_pick k__law_pick b__law_pick (pav_cons (pev_var 0 (by decide)) (pav_cons (pev_var 1 (by decide)) (pav_cons (pev_lst (pav_cons pev_int (pav_cons pev_int (pav_cons pev_int (pav_cons pev_int (pav_cons (pev_neg pev_int) (pav_cons (pev_op op_sub opu_sub (pev_call G__law_draw (hr.mono (by decide)) rfl m__law_draw k__law_draw b__law_draw (pav_cons (pev_var 0 (by decide)) (pav_cons (pev_var 1 (by decide)) (pav_cons pev_int pav_nil)))) pev_int) pav_nil))))))) pav_nil)))) (pav_cons (pev_var 3 (by decide)) pav_nil)))))))
abbrev N__law_row : List Str := ["_law_script", "_law_town", "_law_most", "_law_cells", "_law_names", "_law_row_here", "_law_k", "_law_wide", "_law_some", "_law_j", "_law_parts", "_law_cell"]
theorem sc__law_row : FnScope ["_law_script", "_law_town", "_law_most", "_law_cells", "_law_names", "_law_row_here", "_law_k", "_law_wide", "_law_some", "_law_j", "_law_parts", "_law_cell"] ["_law_script", "_law_town", "_law_most"] (defScope s__law_row) := ⟨rfl, rfl, rfl, by decide +kernel, rfl, by decide +kernel, by decide +kernel⟩
theorem ok__law_row {P : Program} {w : World} {K : PySem.W.Frag} {mg : Str → Option Value} {base : Heap} {Ps : Tb} {f : Addr} {fd : FuncData} {f__law_pick : Addr} {fd__law_pick : FuncData} {f__law_mixed : Addr} {fd__law_mixed : FuncData} {f__law_draw : Addr} {fd__law_draw : FuncData} {f__law_form : Addr} {fd__law_form : FuncData} (F : Fun K "_law_row" "_law_row" s__law_row f fd) (G__law_pick : FnOk P w K mg base CX0 2 f__law_pick fd__law_pick ["_law_script", "_law_town", "_law_some"] (spM K Ps 3 (mf__law_pick Ps.ns))) (b__law_pick : Binds K fd__law_pick ["_law_script", "_law_town", "_law_some"] []) (k__law_pick : PySem.W.keepIn K (.ref f__law_pick) = true) (m__law_pick : mg "_law_pick" = some (.ref f__law_pick)) (G__law_mixed : FnOk P w K mg base CX0 2 f__law_mixed fd__law_mixed ["_law_script", "_law_town", "_law_row_here"] (spM K Ps 3 (mf__law_mixed Ps.ns))) (b__law_mixed : Binds K fd__law_mixed ["_law_script", "_law_town", "_law_row_here"] []) (k__law_mixed : PySem.W.keepIn K (.ref f__law_mixed) = true) (m__law_mixed : mg "_law_mixed" = some (.ref f__law_mixed)) (G__law_draw : FnOk P w K mg base CX0 1 f__law_draw fd__law_draw ["_law_script", "_law_town", "_law_many"] (spM K Ps 3 (mf__law_draw Ps.ns))) (b__law_draw : Binds K fd__law_draw ["_law_script", "_law_town", "_law_many"] []) (k__law_draw : PySem.W.keepIn K (.ref f__law_draw) = true) (m__law_draw : mg "_law_draw" = some (.ref f__law_draw)) (G__law_form : FnOk P w K mg base CX0 3 f__law_form fd__law_form ["_law_script", "_law_town", "_law_cells"] (spM K Ps 3 (mf__law_form Ps.ns))) (b__law_form : Binds K fd__law_form ["_law_script", "_law_town", "_law_cells"] []) (k__law_form : PySem.W.keepIn K (.ref f__law_form) = true) (m__law_form : mg "_law_form" = some (.ref f__law_form)) (z_range : mg "range" = none) (z_dict : mg "dict" = none) (z_tuple : mg "tuple" = none) (z_sorted : mg "sorted" = none) : FnOk P w K mg base CX0 4 f fd ["_law_script", "_law_town", "_law_most"] (spM K Ps 3 (mf__law_row Ps.ns)) :=
  fn_M (N := N__law_row) (O' := []) (m := m__law_row Ps.ns) F sc__law_row fun cdv A outer s H E hr => (pssv_cons (psv_asg (O' := []) 3 sc__law_row.nd (oM (by decide)) (pev_call G__law_pick (hr.mono (by decide)) rfl m__law_pick k__law_pick b__law_pick (pav_cons (pev_var 0 (by decide)) (pav_cons (pev_var 1 (by decide)) (pav_cons (pev_lst (pav_cons pev_str (pav_cons pev_str (pav_cons pev_str (pav_cons pev_str (pav_cons pev_str pav_nil)))))) pav_nil))))) (pssv_cons (psv_asg (O' := []) 4 sc__law_row.nd (oM (by decide)) (pev_call G__law_mixed (hr.mono (by decide)) rfl m__law_mixed k__law_mixed b__law_mixed (pav_cons (pev_var 0 (by decide)) (pav_cons (pev_var 1 (by decide)) (pav_cons (pev_lst (pav_cons pev_str (pav_cons pev_str (pav_cons pev_str (pav_cons pev_str (pav_cons pev_str (pav_cons pev_str (pav_cons pev_str (pav_cons pev_str (pav_cons pev_str (pav_cons pev_str (pav_cons pev_str (pav_cons pev_str pav_nil))))))))))))) pav_nil))))) (pssv_cons (psv_asg (O' := []) 5 sc__law_row.nd (oM (by decide)) (pev_tup pav_nil)) (pssv_cons (psv_for (vs := [6]) PassesOwn.never rfl (piv_rng1 rfl z_range (pev_call G__law_draw (hr.mono (by decide)) rfl m__law_draw k__law_draw b__law_draw (pav_cons (pev_var 0 (by decide)) (pav_cons (pev_var 1 (by decide)) (pav_cons (pev_op op_addU (opu_add _) (pev_var 2 (by decide)) pev_int) pav_nil))))) (pgv_name 6 sc__law_row.nd (by decide) (by decide)) (pssv_cons (psv_asg (O' := []) 7 sc__law_row.nd (oM (by decide)) (pev_call G__law_pick (hr.mono (by decide)) rfl m__law_pick k__law_pick b__law_pick (pav_cons (pev_var 0 (by decide)) (pav_cons (pev_var 1 (by decide)) (pav_cons (pev_lst (pav_cons pev_int (pav_cons pev_int (pav_cons pev_int (pav_cons pev_int (pav_cons pev_int (pav_cons pev_int (pav_cons pev_int pav_nil)))))))) pav_nil))))) (pssv_cons (psv_asg (O' := []) 8 sc__law_row.nd (oM (by decide)) (pev_callT (cr_dict rfl) (cu_dict _) rfl z_dict (by decide +kernel) (pav_cons (pev_lc (own := [("_law_j", 9)]) (vs := [9]) rfl sc__law_row.nd (piv_rng1 rfl z_range (pev_var 7 (by decide))) (blkOk_by (N := N__law_row) (sc := defScope s__law_row) (by decide +kernel)) rfl (gonly_name (by decide)) (fun _ _ _ _ _ => (pgv_name 9 sc__law_row.nd (by decide) (by decide))) (fun _ _ _ _ _ => ptsv_nil) (fun _ _ _ _ _ => (pev_tup (pav_cons (pev_call G__law_pick (hr.mono (by decide)) rfl m__law_pick k__law_pick b__law_pick (pav_cons (pev_var 0 (by decide)) (pav_cons (pev_var 1 (by decide)) (pav_cons (pev_var 3 (by decide)) pav_nil)))) (pav_cons pev_int pav_nil))))) pav_nil))) (pssv_cons (psv_asg (O' := []) 10 sc__law_row.nd (oM (by decide)) (pev_callT call_tuple_of (cu_tuple _) rfl z_tuple (by decide +kernel) (pav_cons (pev_lc (own := [("_law_cell", 11)]) (vs := [11]) rfl sc__law_row.nd (piv_val (pev_callB (cr_sortedU rfl) (cu_sorted _) rfl z_sorted (by decide +kernel) (pav_cons (pev_var 8 (by decide)) pav_nil))) (blkOk_by (N := N__law_row) (sc := defScope s__law_row) (by decide +kernel)) rfl (gonly_name (by decide)) (fun _ _ _ _ _ => (pgv_name 11 sc__law_row.nd (by decide) (by decide))) (fun _ _ _ _ _ => ptsv_nil) (fun _ _ _ _ _ => (pev_tup (pav_cons (pev_var 11 (by decide)) (pav_cons (pev_call G__law_form (hr.mono (by decide)) rfl m__law_form k__law_form b__law_form (pav_cons (pev_var 0 (by decide)) (pav_cons (pev_var 1 (by decide)) (pav_cons (pev_var 3 (by decide)) pav_nil)))) pav_nil))))) pav_nil))) (pssv_one (psv_asg (O' := []) 5 sc__law_row.nd (oM (by decide)) (pev_op op_addU (opu_add _) (pev_var 5 (by decide)) (pev_tup (pav_cons (pev_tup (pav_cons (pev_ix (hu_of hr) (pev_var 4 (by decide)) (pev_var 6 (by decide)) (fun _ _ => rfl)) (pav_cons (pev_op op_addU (opu_add _) pev_int (pev_call G__law_draw (hr.mono (by decide)) rfl m__law_draw k__law_draw b__law_draw (pav_cons (pev_var 0 (by decide)) (pav_cons (pev_var 1 (by decide)) (pav_cons pev_int pav_nil))))) (pav_cons (pev_var 10 (by decide)) pav_nil)))) pav_nil))))))))) (pssv_one (psv_ret (pev_var 5 (by decide))))))))
abbrev N_form_of : List Str := ["number", "many_by_cell", "cells", "cell"]
theorem sc_form_of : FnScope ["number", "many_by_cell", "cells", "cell"] ["number", "many_by_cell"] (defScope s_form_of) := ⟨rfl, rfl, rfl, by decide +kernel, rfl, by decide +kernel, by decide +kernel⟩
theorem ok_form_of {P : Program} {w : World} {K : PySem.W.Frag} {mg : Str → Option Value} {base : Heap} {Ps : Tb} {f : Addr} {fd : FuncData} {tabs : List (Addr × Addr)} {c Q : Addr} (BT : BaseT mg base tabs) (hin : (c, Q) ∈ tabs) (hPs : Q ∈ Ps.ps) (hcode : fd.code = .ref c) (F : Fun K "form_of" "form_of" s_form_of f fd) (z_sorted : mg "sorted" = none) (z_tuple : mg "tuple" = none) : FnOk P w K mg base CX0 2 f fd ["number", "many_by_cell"] (spM K Ps 2 (mf_form_of Ps.ns)) :=
  fn_MC (N := N_form_of) (O' := []) (m := m_form_of Ps.ns) F hcode sc_form_of fun A outer s H E hr => (pssv_cons (psv_setLc (O' := []) 2 (own := [("cell", 3)]) (vs := [3]) rfl sc_form_of.nd (oM (by decide)) (piv_val (pev_callB (cr_sortedU rfl) (cu_sorted _) rfl z_sorted (by decide +kernel) (pav_cons (pev_var 1 (by decide)) pav_nil))) (blkOk_by (N := N_form_of) (sc := defScope s_form_of) (by decide +kernel)) rfl (gonly_name (by decide)) (fun _ _ _ _ _ => (pgv_name 3 sc_form_of.nd (by decide) (by decide))) (fun _ _ _ _ _ => (ptsv_one (pbv_cmpR (op_neD hr.units) (opu_ne _) (pev_ix (hu_of hr) (pev_var 1 (by decide)) (pev_var 3 (by decide)) (fun _ _ => rfl)) pev_int (nomark _)))) (fun _ _ _ _ _ => (pev_var 3 (by decide))) (sw_true rfl rfl rfl (by decide +kernel))) (pssv_one (psv_ret (pev_tup (pav_cons (pev_var 0 (by decide)) (pav_cons (pev_tupG (k := 0) (own := [("cell", 3)]) (vs := [3]) (hr.mono (by decide)) (genCx BT hin) hPs rfl z_tuple rfl sc_form_of.nd (piv_val (pev_var 2 (by decide))) (blkOk_by (N := N_form_of) (sc := defScope s_form_of) (by decide +kernel)) rfl (gonly_name (by decide)) (by decide) rfl rfl (fun _ _ _ _ _ _ _ => (pgv_name 3 sc_form_of.nd (by decide) (by decide))) (fun _ _ _ _ _ _ _ hr' => ptsv_nil) (fun _ _ _ _ _ _ _ hr' => (pev_tup (pav_cons (pev_var 3 (by decide)) (pav_cons (pev_ix (hu_of hr') (pev_var 1 (by decide)) (pev_var 3 (by decide)) (fun _ _ => rfl)) pav_nil))))) pav_nil))))))
abbrev N_plus : List Str := ["one", "other", "many_by_cell", "cell", "many"]
theorem sc_plus : FnScope ["one", "other", "many_by_cell", "cell", "many"] ["one", "other"] (defScope s_plus) := ⟨rfl, rfl, rfl, by decide +kernel, rfl, by decide +kernel, by decide +kernel⟩
theorem ok_plus {P : Program} {w : World} {K : PySem.W.Frag} {mg : Str → Option Value} {base : Heap} {Ps : Tb} {f : Addr} {fd : FuncData} {f_form_of : Addr} {fd_form_of : FuncData} (F : Fun K "plus" "plus" s_plus f fd) (G_form_of : FnOk P w K mg base CX0 2 f_form_of fd_form_of ["number", "many_by_cell"] (spM K Ps 2 (mf_form_of Ps.ns))) (b_form_of : Binds K fd_form_of ["number", "many_by_cell"] []) (k_form_of : PySem.W.keepIn K (.ref f_form_of) = true) (m_form_of : mg "form_of" = some (.ref f_form_of)) (z_dict : mg "dict" = none) : FnOk P w K mg base CX0 3 f fd ["one", "other"] (spM K Ps 2 (mf_plus Ps.ns)) :=
  fn_M (N := N_plus) (O' := []) (m := m_plus Ps.ns) F sc_plus fun cdv A outer s H E hr => (pssv_cons (psv_asgO (O' := [2]) 2 sc_plus.nd (oP (by decide)) (pef_callT (cr_dict rfl) (cf_dict _) rfl z_dict (by decide +kernel) (pav_cons (pev_ix (hu_of hr) (pev_var 0 (by decide)) pev_int (fun _ _ => rfl)) pav_nil))) (pssv_cons (psv_for (vs := [3, 4]) PassesOwn.never rfl (piv_val (pev_ix (hu_of hr) (pev_var 1 (by decide)) pev_int (fun _ _ => rfl))) (pgv_tup rfl (pgsv_cons (pgv_name 3 sc_plus.nd (by decide) (by decide)) (pgsv_cons (pgv_name 4 sc_plus.nd (by decide) (by decide)) pgsv_nil))) (pssv_one (psv_dput 2 (hu_of hr) (by decide) (pev_var 3 (by decide)) (pev_lend (O' := []) 2 (oM (by decide)) (pev_op op_addU (opu_add _) (pev_get (hu_of hr) (pev_var 2 (by decide)) (pev_var 3 (by decide)) pev_int ⟨rfl, rfl, rfl, rfl⟩) (pev_var 4 (by decide))))))) (pssv_one (psv_share (O' := []) 2 (oM (by decide)) (psv_ret (pev_call G_form_of (hr.mono (by decide)) rfl m_form_of k_form_of b_form_of (pav_cons (pev_op op_addU (opu_add _) (pev_ix (hu_of hr) (pev_var 0 (by decide)) pev_int (fun _ _ => rfl)) (pev_ix (hu_of hr) (pev_var 1 (by decide)) pev_int (fun _ _ => rfl))) (pav_cons (pev_var 2 (by decide)) pav_nil))))))))
abbrev N_times : List Str := ["form", "many", "number", "terms", "cell", "each"]
theorem sc_times : FnScope ["form", "many", "number", "terms", "cell", "each"] ["form", "many"] (defScope s_times) := ⟨rfl, rfl, rfl, by decide +kernel, rfl, by decide +kernel, by decide +kernel⟩
theorem ok_times {P : Program} {w : World} {K : PySem.W.Frag} {mg : Str → Option Value} {base : Heap} {Ps : Tb} {f : Addr} {fd : FuncData} {f_form_of : Addr} {fd_form_of : FuncData} (F : Fun K "times" "times" s_times f fd) (G_form_of : FnOk P w K mg base CX0 2 f_form_of fd_form_of ["number", "many_by_cell"] (spM K Ps 2 (mf_form_of Ps.ns))) (b_form_of : Binds K fd_form_of ["number", "many_by_cell"] []) (k_form_of : PySem.W.keepIn K (.ref f_form_of) = true) (m_form_of : mg "form_of" = some (.ref f_form_of)) : FnOk P w K mg base CX0 3 f fd ["form", "many"] (spM K Ps 2 (mf_times Ps.ns)) :=
  fn_M (N := N_times) (O' := []) (m := m_times Ps.ns) F sc_times fun cdv A outer s H E hr => (pssv_cons (psv_asgG (vs := [2, 3]) (pev_var 0 (by decide)) (pgv_tup rfl (pgsv_cons (pgv_name 2 sc_times.nd (by decide) (by decide)) (pgsv_cons (pgv_name 3 sc_times.nd (by decide) (by decide)) pgsv_nil)))) (pssv_one (psv_ret (pev_call G_form_of (hr.mono (by decide)) rfl m_form_of k_form_of b_form_of (pav_cons (pev_op op_mul opu_mul (pev_var 2 (by decide)) (pev_var 1 (by decide))) (pav_cons (pev_dc (own := [("cell", 4), ("each", 5)]) (vs := [4, 5]) rfl sc_times.nd (piv_val (pev_var 3 (by decide))) (blkOk_by (N := N_times) (sc := defScope s_times) (by decide +kernel)) rfl (gonly_tup (gsonly_cons (gonly_name (by decide)) (gsonly_cons (gonly_name (by decide)) gsonly_nil))) (fun _ _ _ _ _ => (pgv_tup rfl (pgsv_cons (pgv_name 4 sc_times.nd (by decide) (by decide)) (pgsv_cons (pgv_name 5 sc_times.nd (by decide) (by decide)) pgsv_nil)))) (fun _ _ _ _ _ => ptsv_nil) (fun _ _ _ _ _ => (pev_var 4 (by decide))) (fun _ _ _ _ _ => (pev_op op_mul opu_mul (pev_var 5 (by decide)) (pev_var 1 (by decide))))) pav_nil))))))
abbrev N_form_of_cell : List Str := ["cell"]
theorem sc_form_of_cell : FnScope ["cell"] ["cell"] (defScope s_form_of_cell) := ⟨rfl, rfl, rfl, by decide +kernel, rfl, by decide +kernel, by decide +kernel⟩
theorem ok_form_of_cell {P : Program} {w : World} {K : PySem.W.Frag} {mg : Str → Option Value} {base : Heap} {Ps : Tb} {f : Addr} {fd : FuncData} (F : Fun K "form_of_cell" "form_of_cell" s_form_of_cell f fd) : FnOk P w K mg base CX0 1 f fd ["cell"] (spM K Ps 1 (mf_form_of_cell Ps.ns)) :=
  fn_M (N := N_form_of_cell) (O' := []) (m := m_form_of_cell Ps.ns) F sc_form_of_cell fun cdv A outer s H E hr => (pssv_one (psv_ret (pev_tup (pav_cons pev_int (pav_cons (pev_tup (pav_cons (pev_tup (pav_cons (pev_var 0 (by decide)) (pav_cons pev_int pav_nil))) pav_nil)) pav_nil)))))
abbrev N_put_in : List Str := ["form", "table", "number", "terms", "told", "cell", "many"]
theorem sc_put_in : FnScope ["form", "table", "number", "terms", "told", "cell", "many"] ["form", "table"] (defScope s_put_in) := ⟨rfl, rfl, rfl, by decide +kernel, rfl, by decide +kernel, by decide +kernel⟩
theorem ok_put_in {P : Program} {w : World} {K : PySem.W.Frag} {mg : Str → Option Value} {base : Heap} {Ps : Tb} {f : Addr} {fd : FuncData} {f_plus : Addr} {fd_plus : FuncData} {f_times : Addr} {fd_times : FuncData} {f_form_of_cell : Addr} {fd_form_of_cell : FuncData} (F : Fun K "put_in" "put_in" s_put_in f fd) (G_plus : FnOk P w K mg base CX0 3 f_plus fd_plus ["one", "other"] (spM K Ps 2 (mf_plus Ps.ns))) (b_plus : Binds K fd_plus ["one", "other"] []) (k_plus : PySem.W.keepIn K (.ref f_plus) = true) (m_plus : mg "plus" = some (.ref f_plus)) (G_times : FnOk P w K mg base CX0 3 f_times fd_times ["form", "many"] (spM K Ps 2 (mf_times Ps.ns))) (b_times : Binds K fd_times ["form", "many"] []) (k_times : PySem.W.keepIn K (.ref f_times) = true) (m_times : mg "times" = some (.ref f_times)) (G_form_of_cell : FnOk P w K mg base CX0 1 f_form_of_cell fd_form_of_cell ["cell"] (spM K Ps 1 (mf_form_of_cell Ps.ns))) (b_form_of_cell : Binds K fd_form_of_cell ["cell"] []) (k_form_of_cell : PySem.W.keepIn K (.ref f_form_of_cell) = true) (m_form_of_cell : mg "form_of_cell" = some (.ref f_form_of_cell)) : FnOk P w K mg base CX0 4 f fd ["form", "table"] (spM K Ps 2 (mf_put_in Ps.ns)) :=
  fn_M (N := N_put_in) (O' := []) (m := m_put_in Ps.ns) F sc_put_in fun cdv A outer s H E hr => (pssv_cons (psv_asgG (vs := [2, 3]) (pev_var 0 (by decide)) (pgv_tup rfl (pgsv_cons (pgv_name 2 sc_put_in.nd (by decide) (by decide)) (pgsv_cons (pgv_name 3 sc_put_in.nd (by decide) (by decide)) pgsv_nil)))) (pssv_cons (psv_asg (O' := []) 4 sc_put_in.nd (oM (by decide)) (pev_tup (pav_cons (pev_var 2 (by decide)) (pav_cons (pev_tup pav_nil) pav_nil)))) (pssv_cons (psv_for (vs := [5, 6]) PassesOwn.never rfl (piv_val (pev_var 3 (by decide))) (pgv_tup rfl (pgsv_cons (pgv_name 5 sc_put_in.nd (by decide) (by decide)) (pgsv_cons (pgv_name 6 sc_put_in.nd (by decide) (by decide)) pgsv_nil))) (pssv_one (psv_asg (O' := []) 4 sc_put_in.nd (oM (by decide)) (pev_call G_plus (hr.mono (by decide)) rfl m_plus k_plus b_plus (pav_cons (pev_var 4 (by decide)) (pav_cons (pev_call G_times (hr.mono (by decide)) rfl m_times k_times b_times (pav_cons (pev_get (hu_of hr) (pev_var 1 (by decide)) (pev_var 5 (by decide)) (pev_call G_form_of_cell (hr.mono (by decide)) rfl m_form_of_cell k_form_of_cell b_form_of_cell (pav_cons (pev_var 5 (by decide)) pav_nil)) ⟨rfl, rfl, rfl, rfl⟩) (pav_cons (pev_var 6 (by decide)) pav_nil))) pav_nil)))))) (pssv_one (psv_ret (pev_var 4 (by decide)))))))
abbrev N_forms_behind : List Str := ["row", "told", "name", "ticks", "parts", "cell", "form"]
theorem sc_forms_behind : FnScope ["row", "told", "name", "ticks", "parts", "cell", "form"] ["row"] (defScope s_forms_behind) := ⟨rfl, rfl, rfl, by decide +kernel, rfl, by decide +kernel, by decide +kernel⟩
theorem ok_forms_behind {P : Program} {w : World} {K : PySem.W.Frag} {mg : Str → Option Value} {base : Heap} {Ps : Tb} {f : Addr} {fd : FuncData} {f_put_in : Addr} {fd_put_in : FuncData} (F : Fun K "forms_behind" "forms_behind" s_forms_behind f fd) (G_put_in : FnOk P w K mg base CX0 4 f_put_in fd_put_in ["form", "table"] (spM K Ps 2 (mf_put_in Ps.ns))) (b_put_in : Binds K fd_put_in ["form", "table"] []) (k_put_in : PySem.W.keepIn K (.ref f_put_in) = true) (m_put_in : mg "put_in" = some (.ref f_put_in)) : FnOk P w K mg base CX0 5 f fd ["row"] (spM K Ps 1 (mf_forms_behind Ps.ns)) :=
  fn_M (N := N_forms_behind) (O' := []) (m := m_forms_behind Ps.ns) F sc_forms_behind fun cdv A outer s H E hr => (pssv_cons (psv_asgO (O' := [1]) 1 sc_forms_behind.nd (oP (by decide)) pef_dnew) (pssv_cons (psv_for (vs := [2, 3, 4]) PassesOwn.never rfl (piv_val (pev_var 0 (by decide))) (pgv_tup rfl (pgsv_cons (pgv_name 2 sc_forms_behind.nd (by decide) (by decide)) (pgsv_cons (pgv_name 3 sc_forms_behind.nd (by decide) (by decide)) (pgsv_cons (pgv_name 4 sc_forms_behind.nd (by decide) (by decide)) pgsv_nil)))) (pssv_one (psv_upd (O' := []) 1 (by decide) (oM (by decide)) (pef_dc (own := [("cell", 5), ("form", 6)]) (vs := [5, 6]) rfl sc_forms_behind.nd (piv_val (pev_var 4 (by decide))) (blkOk_by (N := N_forms_behind) (sc := defScope s_forms_behind) (by decide +kernel)) rfl (gonly_tup (gsonly_cons (gonly_name (by decide)) (gsonly_cons (gonly_name (by decide)) gsonly_nil))) (fun _ _ _ _ _ => (pgv_tup rfl (pgsv_cons (pgv_name 5 sc_forms_behind.nd (by decide) (by decide)) (pgsv_cons (pgv_name 6 sc_forms_behind.nd (by decide) (by decide)) pgsv_nil)))) (fun _ _ _ _ _ => ptsv_nil) (fun _ _ _ _ _ => (pev_var 5 (by decide))) (fun _ _ _ _ _ => (pev_call G_put_in (hr.mono (by decide)) rfl m_put_in k_put_in b_put_in (pav_cons (pev_var 6 (by decide)) (pav_cons (pev_var 1 (by decide)) pav_nil)))))))) (pssv_one (psv_share (O' := []) 1 (oM (by decide)) (psv_ret (pev_var 1 (by decide)))))))
abbrev N_map_of : List Str := ["row", "told", "cell"]
theorem sc_map_of : FnScope ["row", "told", "cell"] ["row"] (defScope s_map_of) := ⟨rfl, rfl, rfl, by decide +kernel, rfl, by decide +kernel, by decide +kernel⟩
theorem ok_map_of {P : Program} {w : World} {K : PySem.W.Frag} {mg : Str → Option Value} {base : Heap} {Ps : Tb} {f : Addr} {fd : FuncData} {tabs : List (Addr × Addr)} {c Q : Addr} {f_forms_behind : Addr} {fd_forms_behind : FuncData} {f_form_of_cell : Addr} {fd_form_of_cell : FuncData} (BT : BaseT mg base tabs) (hin : (c, Q) ∈ tabs) (hPs : Q ∈ Ps.ps) (hcode : fd.code = .ref c) (F : Fun K "map_of" "map_of" s_map_of f fd) (G_forms_behind : FnOk P w K mg base CX0 5 f_forms_behind fd_forms_behind ["row"] (spM K Ps 1 (mf_forms_behind Ps.ns))) (b_forms_behind : Binds K fd_forms_behind ["row"] []) (k_forms_behind : PySem.W.keepIn K (.ref f_forms_behind) = true) (m_forms_behind : mg "forms_behind" = some (.ref f_forms_behind)) (G_form_of_cell : FnOk P w K mg base CX0 1 f_form_of_cell fd_form_of_cell ["cell"] (spM K Ps 1 (mf_form_of_cell Ps.ns))) (b_form_of_cell : Binds K fd_form_of_cell ["cell"] []) (k_form_of_cell : PySem.W.keepIn K (.ref f_form_of_cell) = true) (m_form_of_cell : mg "form_of_cell" = some (.ref f_form_of_cell)) (z_tuple : mg "tuple" = none) (z_sorted : mg "sorted" = none) : FnOk P w K mg base CX0 6 f fd ["row"] (spM K Ps 1 (mf_map_of Ps.ns)) :=
  fn_MC (N := N_map_of) (O' := []) (m := m_map_of Ps.ns) F hcode sc_map_of fun A outer s H E hr => (pssv_cons (psv_asg (O' := []) 1 sc_map_of.nd (oM (by decide)) (pev_call G_forms_behind (hr.mono (by decide)) rfl m_forms_behind k_forms_behind b_forms_behind (pav_cons (pev_var 0 (by decide)) pav_nil))) (pssv_one (psv_ret (pev_tupG (k := 1) (own := [("cell", 2)]) (vs := [2]) (hr.mono (by decide)) (genCx BT hin) hPs rfl z_tuple rfl sc_map_of.nd (piv_val (pev_callB (cr_sortedU rfl) (cu_sorted _) rfl z_sorted (by decide +kernel) (pav_cons (pev_var 1 (by decide)) pav_nil))) (blkOk_by (N := N_map_of) (sc := defScope s_map_of) (by decide +kernel)) rfl (gonly_name (by decide)) (by decide) rfl rfl (fun _ _ _ _ _ _ _ => (pgv_name 2 sc_map_of.nd (by decide) (by decide))) (fun _ _ _ _ _ _ _ hr' => (ptsv_one (pbv_cmpR (op_neD hr'.units) (opu_ne _) (pev_ix (hu_of hr') (pev_var 1 (by decide)) (pev_var 2 (by decide)) (fun _ _ => rfl)) (pev_call G_form_of_cell (hr'.mono (by decide)) rfl m_form_of_cell k_form_of_cell b_form_of_cell (pav_cons (pev_var 2 (by decide)) pav_nil)) (nomark _)))) (fun _ _ _ _ _ _ _ hr' => (pev_tup (pav_cons (pev_var 2 (by decide)) (pav_cons (pev_ix (hu_of hr') (pev_var 1 (by decide)) (pev_var 2 (by decide)) (fun _ _ => rfl)) pav_nil))))))))
abbrev N_is_idle : List Str := ["deed"]
theorem sc_is_idle : FnScope ["deed"] ["deed"] (defScope s_is_idle) := ⟨rfl, rfl, rfl, by decide +kernel, rfl, by decide +kernel, by decide +kernel⟩
theorem ok_is_idle {P : Program} {w : World} {K : PySem.W.Frag} {mg : Str → Option Value} {base : Heap} {Ps : Tb} {f : Addr} {fd : FuncData} {f_map_of : Addr} {fd_map_of : FuncData} (F : Fun K "is_idle" "is_idle" s_is_idle f fd) (G_map_of : FnOk P w K mg base CX0 6 f_map_of fd_map_of ["row"] (spM K Ps 1 (mf_map_of Ps.ns))) (b_map_of : Binds K fd_map_of ["row"] []) (k_map_of : PySem.W.keepIn K (.ref f_map_of) = true) (m_map_of : mg "map_of" = some (.ref f_map_of)) : FnOk P w K mg base CX0 7 f fd ["deed"] (spM K Ps 1 (mf_is_idle Ps.ns)) :=
  fn_M (N := N_is_idle) (O' := []) (m := m_is_idle Ps.ns) F sc_is_idle fun cdv A outer s H E hr => (pssv_one (psv_ret (pev_cmpR (op_eqD hr.units) (opu_eq _) (pev_call G_map_of (hr.mono (by decide)) rfl m_map_of k_map_of b_map_of (pav_cons (pev_tup (pav_cons (pev_var 0 (by decide)) pav_nil)) pav_nil)) (pev_tup pav_nil) (nomark _))))
def m__law_both (ns : List Int) : SM := (sSeq (sPar 2 3 (aCons (eFn fDict (aCons (eVar 0) aNil)) (aCons (eFn fDict (aCons (eVar 0) aNil)) aNil))) (sSeq (sFor (aItems (eVar 1)) (gTp 2 (gsCons (gNm 4) (gsCons (gNm 5) gsNil))) (sDput 2 (eVar 4) (eCallN 2 (mf_put_in ns) (aCons (eVar 5) (aCons (eVar 3) aNil))))) (sRet (eFn fTuple (aCons (eLc (aItems (eFn fSorted (aCons (eVar 2) aNil))) [4] (gNm 4) (bVal (eBin fNe (eIdx ns (eVar 2) (eVar 4)) (eTup (aCons (eC (.int 0)) (aCons (eTup (aCons (eTup (aCons (eVar 4) (aCons (eC (.int 1)) aNil))) aNil)) aNil))))) (eTup (aCons (eVar 4) (aCons (eIdx ns (eVar 2) (eVar 4)) aNil)))) aNil)))))
def mf__law_both (ns : List Int) : List U → Nat → Option (U × Nat) := runM 6 (m__law_both ns)
abbrev N__law_both : List Str := ["_law_first", "_law_second", "_law_found", "_law_table", "_law_cell", "_law_form_here"]
theorem sc__law_both : FnScope ["_law_first", "_law_second", "_law_found", "_law_table", "_law_cell", "_law_form_here"] ["_law_first", "_law_second"] (defScope s__law_both) := ⟨rfl, rfl, rfl, by decide +kernel, rfl, by decide +kernel, by decide +kernel⟩
theorem ok__law_both {P : Program} {w : World} {K : PySem.W.Frag} {mg : Str → Option Value} {base : Heap} {Ps : Tb} {f : Addr} {fd : FuncData} {f_put_in : Addr} {fd_put_in : FuncData} (F : Fun K "_law_both" "_law_both" s__law_both f fd) (G_put_in : FnOk P w K mg base CX0 4 f_put_in fd_put_in ["form", "table"] (spM K Ps 2 (mf_put_in Ps.ns))) (b_put_in : Binds K fd_put_in ["form", "table"] []) (k_put_in : PySem.W.keepIn K (.ref f_put_in) = true) (m_put_in : mg "put_in" = some (.ref f_put_in)) (z_dict : mg "dict" = none) (z_tuple : mg "tuple" = none) (z_sorted : mg "sorted" = none) : FnOk P w K mg base CX0 5 f fd ["_law_first", "_law_second"] (spM K Ps 2 (mf__law_both Ps.ns)) :=
  fn_M (N := N__law_both) (O' := []) (m := m__law_both Ps.ns) F sc__law_both fun cdv A outer s H E hr => (pssv_cons (psv_parG (O2 := [2]) 2 3 rfl sc__law_both.nd (by decide) (by decide) (oP (by decide)) (pef_callT (cr_dict rfl) (cf_dict _) rfl z_dict (by decide +kernel) (pav_cons (pev_var 0 (by decide)) pav_nil)) (pev_callT (cr_dict rfl) (cu_dict _) rfl z_dict (by decide +kernel) (pav_cons (pev_var 0 (by decide)) pav_nil))) (pssv_cons (psv_for (vs := [4, 5]) PassesOwn.never rfl (piv_val (pev_var 1 (by decide))) (pgv_tup rfl (pgsv_cons (pgv_name 4 sc__law_both.nd (by decide) (by decide)) (pgsv_cons (pgv_name 5 sc__law_both.nd (by decide) (by decide)) pgsv_nil))) (pssv_one (psv_dput 2 (hu_of hr) (by decide) (pev_var 4 (by decide)) (pev_call G_put_in (hr.mono (by decide)) rfl m_put_in k_put_in b_put_in (pav_cons (pev_var 5 (by decide)) (pav_cons (pev_var 3 (by decide)) pav_nil)))))) (pssv_one (psv_share (O' := []) 2 (oM (by decide)) (psv_ret (pev_callT call_tuple_of (cu_tuple _) rfl z_tuple (by decide +kernel) (pav_cons (pev_lc (own := [("_law_cell", 4)]) (vs := [4]) rfl sc__law_both.nd (piv_val (pev_callB (cr_sortedU rfl) (cu_sorted _) rfl z_sorted (by decide +kernel) (pav_cons (pev_var 2 (by decide)) pav_nil))) (blkOk_by (N := N__law_both) (sc := defScope s__law_both) (by decide +kernel)) rfl (gonly_name (by decide)) (fun _ _ _ _ _ => (pgv_name 4 sc__law_both.nd (by decide) (by decide))) (fun _ _ _ _ _ => (ptsv_one (pbv_cmpR (op_neD hr.units) (opu_ne _) (pev_ix (hu_of hr) (pev_var 2 (by decide)) (pev_var 4 (by decide)) (fun _ _ => rfl)) (pev_tup (pav_cons pev_int (pav_cons (pev_tup (pav_cons (pev_tup (pav_cons (pev_var 4 (by decide)) (pav_cons pev_int pav_nil))) pav_nil)) pav_nil))) (nomark _)))) (fun _ _ _ _ _ => (pev_tup (pav_cons (pev_var 4 (by decide)) (pav_cons (pev_ix (hu_of hr) (pev_var 2 (by decide)) (pev_var 4 (by decide)) (fun _ _ => rfl)) pav_nil))))) pav_nil)))))))
abbrev N_joined : List Str := ["name", "ticks", "row", "told", "cell"]
theorem sc_joined : FnScope ["name", "ticks", "row", "told", "cell"] ["name", "ticks", "row"] (defScope s_joined) := ⟨rfl, rfl, rfl, by decide +kernel, rfl, by decide +kernel, by decide +kernel⟩
theorem ok_joined {P : Program} {w : World} {K : PySem.W.Frag} {mg : Str → Option Value} {base : Heap} {Ps : Tb} {f : Addr} {fd : FuncData} {tabs : List (Addr × Addr)} {c Q : Addr} {f_forms_behind : Addr} {fd_forms_behind : FuncData} (BT : BaseT mg base tabs) (hin : (c, Q) ∈ tabs) (hPs : Q ∈ Ps.ps) (hcode : fd.code = .ref c) (F : Fun K "joined" "joined" s_joined f fd) (G_forms_behind : FnOk P w K mg base CX0 5 f_forms_behind fd_forms_behind ["row"] (spM K Ps 1 (mf_forms_behind Ps.ns))) (b_forms_behind : Binds K fd_forms_behind ["row"] []) (k_forms_behind : PySem.W.keepIn K (.ref f_forms_behind) = true) (m_forms_behind : mg "forms_behind" = some (.ref f_forms_behind)) (z_tuple : mg "tuple" = none) (z_sorted : mg "sorted" = none) : FnOk P w K mg base CX0 6 f fd ["name", "ticks", "row"] (spM K Ps 3 (mf_joined Ps.ns)) :=
  fn_MC (N := N_joined) (O' := []) (m := m_joined Ps.ns) F hcode sc_joined fun A outer s H E hr => (pssv_cons (psv_asg (O' := []) 3 sc_joined.nd (oM (by decide)) (pev_call G_forms_behind (hr.mono (by decide)) rfl m_forms_behind k_forms_behind b_forms_behind (pav_cons (pev_var 2 (by decide)) pav_nil))) (pssv_one (psv_ret (pev_tup (pav_cons (pev_var 0 (by decide)) (pav_cons (pev_var 1 (by decide)) (pav_cons (pev_tupG (k := 0) (own := [("cell", 4)]) (vs := [4]) (hr.mono (by decide)) (genCx BT hin) hPs rfl z_tuple rfl sc_joined.nd (piv_val (pev_callB (cr_sortedU rfl) (cu_sorted _) rfl z_sorted (by decide +kernel) (pav_cons (pev_var 3 (by decide)) pav_nil))) (blkOk_by (N := N_joined) (sc := defScope s_joined) (by decide +kernel)) rfl (gonly_name (by decide)) (by decide) rfl rfl (fun _ _ _ _ _ _ _ => (pgv_name 4 sc_joined.nd (by decide) (by decide))) (fun _ _ _ _ _ _ _ hr' => ptsv_nil) (fun _ _ _ _ _ _ _ hr' => (pev_tup (pav_cons (pev_var 4 (by decide)) (pav_cons (pev_ix (hu_of hr') (pev_var 3 (by decide)) (pev_var 4 (by decide)) (fun _ _ => rfl)) pav_nil))))) pav_nil)))))))
abbrev N__law_store : List Str := ["_law_script", "_law_town", "_law_got", "_law_cell", "_law_worth"]
theorem sc__law_store : FnScope ["_law_script", "_law_town", "_law_got", "_law_cell", "_law_worth"] ["_law_script", "_law_town"] (defScope s__law_store) := ⟨rfl, rfl, rfl, by decide +kernel, rfl, by decide +kernel, by decide +kernel⟩
theorem ok__law_store {P : Program} {w : World} {K : PySem.W.Frag} {mg : Str → Option Value} {base : Heap} {Ps : Tb} {f : Addr} {fd : FuncData} {f__law_pick : Addr} {fd__law_pick : FuncData} (F : Fun K "_law_store" "_law_store" s__law_store f fd) (G__law_pick : FnOk P w K mg base CX0 2 f__law_pick fd__law_pick ["_law_script", "_law_town", "_law_some"] (spM K Ps 3 (mf__law_pick Ps.ns))) (b__law_pick : Binds K fd__law_pick ["_law_script", "_law_town", "_law_some"] []) (k__law_pick : PySem.W.keepIn K (.ref f__law_pick) = true) (m__law_pick : mg "_law_pick" = some (.ref f__law_pick)) : FnOk P w K mg base CX0 3 f fd ["_law_script", "_law_town"] (spM K Ps 2 (mf__law_store Ps.ns)) :=
  fn_M (N := N__law_store) (O' := []) (m := m__law_store Ps.ns) F sc__law_store fun cdv A outer s H E hr => (pssv_cons (psv_asg (O' := []) 2 sc__law_store.nd (oM (by decide)) (pev_tup pav_nil)) (pssv_cons (psv_for (vs := [3]) PassesOwn.never rfl (piv_val pev_str) (pgv_name 3 sc__law_store.nd (by decide) (by decide)) (pssv_cons (psv_asg (O' := []) 4 sc__law_store.nd (oM (by decide)) (pev_call G__law_pick (hr.mono (by decide)) rfl m__law_pick k__law_pick b__law_pick (pav_cons (pev_var 0 (by decide)) (pav_cons (pev_var 1 (by decide)) (pav_cons (pev_lst (pav_cons pev_int (pav_cons pev_int (pav_cons pev_int (pav_cons (pev_neg pev_int) (pav_cons pev_int (pav_cons pev_int (pav_cons (pev_neg pev_int) pav_nil)))))))) pav_nil))))) (pssv_one (psv_asg (O' := []) 2 sc__law_store.nd (oM (by decide)) (pev_op op_addU (opu_add _) (pev_var 2 (by decide)) (pev_if (pbv_cmpR (op_neD hr.units) (opu_ne _) (pev_var 4 (by decide)) pev_int (nomark _)) (pev_tup (pav_cons (pev_tup (pav_cons (pev_var 3 (by decide)) (pav_cons (pev_var 4 (by decide)) pav_nil))) pav_nil)) (pev_tup pav_nil))))))) (pssv_one (psv_ret (pev_var 2 (by decide))))))
abbrev N_are_alike : List Str := ["one", "other"]
theorem sc_are_alike : FnScope ["one", "other"] ["one", "other"] (defScope s_are_alike) := ⟨rfl, rfl, rfl, by decide +kernel, rfl, by decide +kernel, by decide +kernel⟩
theorem ok_are_alike {P : Program} {w : World} {K : PySem.W.Frag} {mg : Str → Option Value} {base : Heap} {Ps : Tb} {f : Addr} {fd : FuncData} {f_map_of : Addr} {fd_map_of : FuncData} (F : Fun K "are_alike" "are_alike" s_are_alike f fd) (G_map_of : FnOk P w K mg base CX0 6 f_map_of fd_map_of ["row"] (spM K Ps 1 (mf_map_of Ps.ns))) (b_map_of : Binds K fd_map_of ["row"] []) (k_map_of : PySem.W.keepIn K (.ref f_map_of) = true) (m_map_of : mg "map_of" = some (.ref f_map_of)) : FnOk P w K mg base CX0 7 f fd ["one", "other"] (spM K Ps 2 (mf_are_alike Ps.ns)) :=
  fn_M (N := N_are_alike) (O' := []) (m := m_are_alike Ps.ns) F sc_are_alike fun cdv A outer s H E hr => (pssv_one (psv_ret (pev_cmpR (op_eqD hr.units) (opu_eq _) (pev_call G_map_of (hr.mono (by decide)) rfl m_map_of k_map_of b_map_of (pav_cons (pev_var 0 (by decide)) pav_nil)) (pev_call G_map_of (hr.mono (by decide)) rfl m_map_of k_map_of b_map_of (pav_cons (pev_var 1 (by decide)) pav_nil)) (nomark _))))
abbrev N_writes : List Str := ["deed", "name", "ticks", "parts", "cell", "form"]
theorem sc_writes : FnScope ["deed", "name", "ticks", "parts", "cell", "form"] ["deed"] (defScope s_writes) := ⟨rfl, rfl, rfl, by decide +kernel, rfl, by decide +kernel, by decide +kernel⟩
theorem ok_writes {P : Program} {w : World} {K : PySem.W.Frag} {mg : Str → Option Value} {base : Heap} {Ps : Tb} {f : Addr} {fd : FuncData} {tabs : List (Addr × Addr)} {c Q : Addr} (BT : BaseT mg base tabs) (hin : (c, Q) ∈ tabs) (hPs : Q ∈ Ps.ps) (hcode : fd.code = .ref c) (F : Fun K "writes" "writes" s_writes f fd) (z_tuple : mg "tuple" = none) : FnOk P w K mg base CX0 2 f fd ["deed"] (spM K Ps 1 (mf_writes Ps.ns)) :=
  fn_MC (N := N_writes) (O' := []) (m := m_writes Ps.ns) F hcode sc_writes fun A outer s H E hr => (pssv_cons (psv_asgG (vs := [1, 2, 3]) (pev_var 0 (by decide)) (pgv_tup rfl (pgsv_cons (pgv_name 1 sc_writes.nd (by decide) (by decide)) (pgsv_cons (pgv_name 2 sc_writes.nd (by decide) (by decide)) (pgsv_cons (pgv_name 3 sc_writes.nd (by decide) (by decide)) pgsv_nil))))) (pssv_one (psv_ret (pev_tupG (k := 0) (own := [("cell", 4), ("form", 5)]) (vs := [4, 5]) (hr.mono (by decide)) (genCx BT hin) hPs rfl z_tuple rfl sc_writes.nd (piv_val (pev_var 3 (by decide))) (blkOk_by (N := N_writes) (sc := defScope s_writes) (by decide +kernel)) rfl (gonly_tup (gsonly_cons (gonly_name (by decide)) (gsonly_cons (gonly_name (by decide)) gsonly_nil))) (by decide) rfl rfl (fun _ _ _ _ _ _ _ => (pgv_tup rfl (pgsv_cons (pgv_name 4 sc_writes.nd (by decide) (by decide)) (pgsv_cons (pgv_name 5 sc_writes.nd (by decide) (by decide)) pgsv_nil)))) (fun _ _ _ _ _ _ _ hr' => ptsv_nil) (fun _ _ _ _ _ _ _ hr' => (pev_var 4 (by decide)))))))
def m__law_written (ns : List Int) : SM := (sSeq (sAsg 1 (eC (.dct []))) (sSeq (sFor (aItems (eVar 0)) (gNm 2) (sFor (aItems (eCallN 1 (mf_writes ns) (aCons (eVar 2) aNil))) (gNm 3) (sDput 1 (eVar 3) (eC (.int 0))))) (sRet (eFn fTuple (aCons (eFn fSorted (aCons (eVar 1) aNil)) aNil)))))
def mf__law_written (ns : List Int) : List U → Nat → Option (U × Nat) := runM 4 (m__law_written ns)
abbrev N__law_written : List Str := ["_law_row_here", "_law_found", "_law_deed", "_law_cell"]
theorem sc__law_written : FnScope ["_law_row_here", "_law_found", "_law_deed", "_law_cell"] ["_law_row_here"] (defScope s__law_written) := ⟨rfl, rfl, rfl, by decide +kernel, rfl, by decide +kernel, by decide +kernel⟩
theorem ok__law_written {P : Program} {w : World} {K : PySem.W.Frag} {mg : Str → Option Value} {base : Heap} {Ps : Tb} {f : Addr} {fd : FuncData} {f_writes : Addr} {fd_writes : FuncData} (F : Fun K "_law_written" "_law_written" s__law_written f fd) (G_writes : FnOk P w K mg base CX0 2 f_writes fd_writes ["deed"] (spM K Ps 1 (mf_writes Ps.ns))) (b_writes : Binds K fd_writes ["deed"] []) (k_writes : PySem.W.keepIn K (.ref f_writes) = true) (m_writes : mg "writes" = some (.ref f_writes)) (z_tuple : mg "tuple" = none) (z_sorted : mg "sorted" = none) : FnOk P w K mg base CX0 3 f fd ["_law_row_here"] (spM K Ps 1 (mf__law_written Ps.ns)) :=
  fn_M (N := N__law_written) (O' := []) (m := m__law_written Ps.ns) F sc__law_written fun cdv A outer s H E hr => (pssv_cons (psv_asgO (O' := [1]) 1 sc__law_written.nd (oP (by decide)) pef_dnew) (pssv_cons (psv_for (vs := [2]) PassesOwn.never rfl (piv_val (pev_var 0 (by decide))) (pgv_name 2 sc__law_written.nd (by decide) (by decide)) (pssv_one (psv_for (vs := [3]) PassesOwn.never rfl (piv_val (pev_call G_writes (hr.mono (by decide)) rfl m_writes k_writes b_writes (pav_cons (pev_var 2 (by decide)) pav_nil))) (pgv_name 3 sc__law_written.nd (by decide) (by decide)) (pssv_one (psv_dput 1 (hu_of hr) (by decide) (pev_var 3 (by decide)) pev_int))))) (pssv_one (psv_share (O' := []) 1 (oM (by decide)) (psv_ret (pev_callT call_tuple_of (cu_tuple _) rfl z_tuple (by decide +kernel) (pav_cons (pev_callB (cr_sortedU rfl) (cu_sorted _) rfl z_sorted (by decide +kernel) (pav_cons (pev_var 1 (by decide)) pav_nil)) pav_nil)))))))
abbrev N_store_of : List Str := ["worth_by_cell", "cells", "cell"]
theorem sc_store_of : FnScope ["worth_by_cell", "cells", "cell"] ["worth_by_cell"] (defScope s_store_of) := ⟨rfl, rfl, rfl, by decide +kernel, rfl, by decide +kernel, by decide +kernel⟩
theorem ok_store_of {P : Program} {w : World} {K : PySem.W.Frag} {mg : Str → Option Value} {base : Heap} {Ps : Tb} {f : Addr} {fd : FuncData} {tabs : List (Addr × Addr)} {c Q : Addr} (BT : BaseT mg base tabs) (hin : (c, Q) ∈ tabs) (hPs : Q ∈ Ps.ps) (hcode : fd.code = .ref c) (F : Fun K "store_of" "store_of" s_store_of f fd) (z_sorted : mg "sorted" = none) (z_tuple : mg "tuple" = none) : FnOk P w K mg base CX0 2 f fd ["worth_by_cell"] (spM K Ps 1 (mf_store_of Ps.ns)) :=
  fn_MC (N := N_store_of) (O' := []) (m := m_store_of Ps.ns) F hcode sc_store_of fun A outer s H E hr => (pssv_cons (psv_setLc (O' := []) 1 (own := [("cell", 2)]) (vs := [2]) rfl sc_store_of.nd (oM (by decide)) (piv_val (pev_callB (cr_sortedU rfl) (cu_sorted _) rfl z_sorted (by decide +kernel) (pav_cons (pev_var 0 (by decide)) pav_nil))) (blkOk_by (N := N_store_of) (sc := defScope s_store_of) (by decide +kernel)) rfl (gonly_name (by decide)) (fun _ _ _ _ _ => (pgv_name 2 sc_store_of.nd (by decide) (by decide))) (fun _ _ _ _ _ => (ptsv_one (pbv_cmpR (op_neD hr.units) (opu_ne _) (pev_ix (hu_of hr) (pev_var 0 (by decide)) (pev_var 2 (by decide)) (fun _ _ => rfl)) pev_int (nomark _)))) (fun _ _ _ _ _ => (pev_var 2 (by decide))) (sw_true rfl rfl rfl (by decide +kernel))) (pssv_one (psv_ret (pev_tupG (k := 0) (own := [("cell", 2)]) (vs := [2]) (hr.mono (by decide)) (genCx BT hin) hPs rfl z_tuple rfl sc_store_of.nd (piv_val (pev_var 1 (by decide))) (blkOk_by (N := N_store_of) (sc := defScope s_store_of) (by decide +kernel)) rfl (gonly_name (by decide)) (by decide) rfl rfl (fun _ _ _ _ _ _ _ => (pgv_name 2 sc_store_of.nd (by decide) (by decide))) (fun _ _ _ _ _ _ _ hr' => ptsv_nil) (fun _ _ _ _ _ _ _ hr' => (pev_tup (pav_cons (pev_var 2 (by decide)) (pav_cons (pev_ix (hu_of hr') (pev_var 0 (by decide)) (pev_var 2 (by decide)) (fun _ _ => rfl)) pav_nil))))))))
abbrev N_worth_of : List Str := ["form", "table", "number", "terms", "cell", "many"]
theorem sc_worth_of : FnScope ["form", "table", "number", "terms", "cell", "many"] ["form", "table"] (defScope s_worth_of) := ⟨rfl, rfl, rfl, by decide +kernel, rfl, by decide +kernel, by decide +kernel⟩
theorem ok_worth_of {P : Program} {w : World} {K : PySem.W.Frag} {mg : Str → Option Value} {base : Heap} {Ps : Tb} {f : Addr} {fd : FuncData} (F : Fun K "worth_of" "worth_of" s_worth_of f fd) (z_sum : mg "sum" = none) : FnOk P w K mg base CX0 1 f fd ["form", "table"] (spM K Ps 2 (mf_worth_of Ps.ns)) :=
  fn_M (N := N_worth_of) (O' := []) (m := m_worth_of Ps.ns) F sc_worth_of fun cdv A outer s H E hr => (pssv_cons (psv_asgG (vs := [2, 3]) (pev_var 0 (by decide)) (pgv_tup rfl (pgsv_cons (pgv_name 2 sc_worth_of.nd (by decide) (by decide)) (pgsv_cons (pgv_name 3 sc_worth_of.nd (by decide) (by decide)) pgsv_nil)))) (pssv_one (psv_ret (pev_op op_addU (opu_add _) (pev_var 2 (by decide)) (pev_callB (cr_sum rfl) (cu_sum _) rfl z_sum (by decide +kernel) (pav_cons (pev_lc (own := [("cell", 4), ("many", 5)]) (vs := [4, 5]) rfl sc_worth_of.nd (piv_val (pev_var 3 (by decide))) (blkOk_by (N := N_worth_of) (sc := defScope s_worth_of) (by decide +kernel)) rfl (gonly_tup (gsonly_cons (gonly_name (by decide)) (gsonly_cons (gonly_name (by decide)) gsonly_nil))) (fun _ _ _ _ _ => (pgv_tup rfl (pgsv_cons (pgv_name 4 sc_worth_of.nd (by decide) (by decide)) (pgsv_cons (pgv_name 5 sc_worth_of.nd (by decide) (by decide)) pgsv_nil)))) (fun _ _ _ _ _ => ptsv_nil) (fun _ _ _ _ _ => (pev_op op_mul opu_mul (pev_var 5 (by decide)) (pev_get (hu_of hr) (pev_var 1 (by decide)) (pev_var 4 (by decide)) pev_int ⟨rfl, rfl, rfl, rfl⟩)))) pav_nil))))))
abbrev N_with_parts : List Str := ["store", "parts", "worths_ahead", "worths_behind", "cell", "form"]
theorem sc_with_parts : FnScope ["store", "parts", "worths_ahead", "worths_behind", "cell", "form"] ["store", "parts"] (defScope s_with_parts) := ⟨rfl, rfl, rfl, by decide +kernel, rfl, by decide +kernel, by decide +kernel⟩
theorem ok_with_parts {P : Program} {w : World} {K : PySem.W.Frag} {mg : Str → Option Value} {base : Heap} {Ps : Tb} {f : Addr} {fd : FuncData} {f_worth_of : Addr} {fd_worth_of : FuncData} {f_store_of : Addr} {fd_store_of : FuncData} (F : Fun K "with_parts" "with_parts" s_with_parts f fd) (G_worth_of : FnOk P w K mg base CX0 1 f_worth_of fd_worth_of ["form", "table"] (spM K Ps 2 (mf_worth_of Ps.ns))) (b_worth_of : Binds K fd_worth_of ["form", "table"] []) (k_worth_of : PySem.W.keepIn K (.ref f_worth_of) = true) (m_worth_of : mg "worth_of" = some (.ref f_worth_of)) (G_store_of : FnOk P w K mg base CX0 2 f_store_of fd_store_of ["worth_by_cell"] (spM K Ps 1 (mf_store_of Ps.ns))) (b_store_of : Binds K fd_store_of ["worth_by_cell"] []) (k_store_of : PySem.W.keepIn K (.ref f_store_of) = true) (m_store_of : mg "store_of" = some (.ref f_store_of)) (z_dict : mg "dict" = none) : FnOk P w K mg base CX0 3 f fd ["store", "parts"] (spM K Ps 2 (mf_with_parts Ps.ns)) :=
  fn_M (N := N_with_parts) (O' := []) (m := m_with_parts Ps.ns) F sc_with_parts fun cdv A outer s H E hr => (pssv_cons (psv_asg (O' := []) 2 sc_with_parts.nd (oM (by decide)) (pev_callT (cr_dict rfl) (cu_dict _) rfl z_dict (by decide +kernel) (pav_cons (pev_var 0 (by decide)) pav_nil))) (pssv_cons (psv_asgO (O' := [3]) 3 sc_with_parts.nd (oP (by decide)) (pef_callT (cr_dict rfl) (cf_dict _) rfl z_dict (by decide +kernel) (pav_cons (pev_var 0 (by decide)) pav_nil))) (pssv_cons (psv_for (vs := [4, 5]) PassesOwn.never rfl (piv_val (pev_var 1 (by decide))) (pgv_tup rfl (pgsv_cons (pgv_name 4 sc_with_parts.nd (by decide) (by decide)) (pgsv_cons (pgv_name 5 sc_with_parts.nd (by decide) (by decide)) pgsv_nil))) (pssv_one (psv_dput 3 (hu_of hr) (by decide) (pev_var 4 (by decide)) (pev_call G_worth_of (hr.mono (by decide)) rfl m_worth_of k_worth_of b_worth_of (pav_cons (pev_var 5 (by decide)) (pav_cons (pev_var 2 (by decide)) pav_nil)))))) (pssv_one (psv_share (O' := []) 3 (oM (by decide)) (psv_ret (pev_call G_store_of (hr.mono (by decide)) rfl m_store_of k_store_of b_store_of (pav_cons (pev_var 3 (by decide)) pav_nil))))))))
abbrev N_done : List Str := ["store", "deed", "name", "ticks", "parts"]
theorem sc_done : FnScope ["store", "deed", "name", "ticks", "parts"] ["store", "deed"] (defScope s_done) := ⟨rfl, rfl, rfl, by decide +kernel, rfl, by decide +kernel, by decide +kernel⟩
theorem ok_done {P : Program} {w : World} {K : PySem.W.Frag} {mg : Str → Option Value} {base : Heap} {Ps : Tb} {f : Addr} {fd : FuncData} {f_with_parts : Addr} {fd_with_parts : FuncData} (F : Fun K "done" "done" s_done f fd) (G_with_parts : FnOk P w K mg base CX0 3 f_with_parts fd_with_parts ["store", "parts"] (spM K Ps 2 (mf_with_parts Ps.ns))) (b_with_parts : Binds K fd_with_parts ["store", "parts"] []) (k_with_parts : PySem.W.keepIn K (.ref f_with_parts) = true) (m_with_parts : mg "with_parts" = some (.ref f_with_parts)) : FnOk P w K mg base CX0 4 f fd ["store", "deed"] (spM K Ps 2 (mf_done Ps.ns)) :=
  fn_M (N := N_done) (O' := []) (m := m_done Ps.ns) F sc_done fun cdv A outer s H E hr => (pssv_cons (psv_asgG (vs := [2, 3, 4]) (pev_var 1 (by decide)) (pgv_tup rfl (pgsv_cons (pgv_name 2 sc_done.nd (by decide) (by decide)) (pgsv_cons (pgv_name 3 sc_done.nd (by decide) (by decide)) (pgsv_cons (pgv_name 4 sc_done.nd (by decide) (by decide)) pgsv_nil))))) (pssv_one (psv_ret (pev_call G_with_parts (hr.mono (by decide)) rfl m_with_parts k_with_parts b_with_parts (pav_cons (pev_var 0 (by decide)) (pav_cons (pev_var 4 (by decide)) pav_nil))))))
abbrev N_run : List Str := ["store", "row", "deed"]
theorem sc_run : FnScope ["store", "row", "deed"] ["store", "row"] (defScope s_run) := ⟨rfl, rfl, rfl, by decide +kernel, rfl, by decide +kernel, by decide +kernel⟩
theorem ok_run {P : Program} {w : World} {K : PySem.W.Frag} {mg : Str → Option Value} {base : Heap} {Ps : Tb} {f : Addr} {fd : FuncData} {f_done : Addr} {fd_done : FuncData} (F : Fun K "run" "run" s_run f fd) (G_done : FnOk P w K mg base CX0 4 f_done fd_done ["store", "deed"] (spM K Ps 2 (mf_done Ps.ns))) (b_done : Binds K fd_done ["store", "deed"] []) (k_done : PySem.W.keepIn K (.ref f_done) = true) (m_done : mg "done" = some (.ref f_done)) : FnOk P w K mg base CX0 5 f fd ["store", "row"] (spM K Ps 2 (mf_run Ps.ns)) :=
  fn_M (N := N_run) (O' := []) (m := m_run Ps.ns) F sc_run fun cdv A outer s H E hr => (pssv_cons (psv_for (vs := [2]) PassesOwn.never rfl (piv_val (pev_var 1 (by decide))) (pgv_name 2 sc_run.nd (by decide) (by decide)) (pssv_one (psv_asg (O' := []) 0 sc_run.nd (oM (by decide)) (pev_call G_done (hr.mono (by decide)) rfl m_done k_done b_done (pav_cons (pev_var 0 (by decide)) (pav_cons (pev_var 2 (by decide)) pav_nil)))))) (pssv_one (psv_ret (pev_var 0 (by decide)))))
abbrev N_worth_at : List Str := ["store", "cell"]
theorem sc_worth_at : FnScope ["store", "cell"] ["store", "cell"] (defScope s_worth_at) := ⟨rfl, rfl, rfl, by decide +kernel, rfl, by decide +kernel, by decide +kernel⟩
theorem ok_worth_at {P : Program} {w : World} {K : PySem.W.Frag} {mg : Str → Option Value} {base : Heap} {Ps : Tb} {f : Addr} {fd : FuncData} (F : Fun K "worth_at" "worth_at" s_worth_at f fd) (z_dict : mg "dict" = none) : FnOk P w K mg base CX0 1 f fd ["store", "cell"] (spM K Ps 2 (mf_worth_at Ps.ns)) :=
  fn_M (N := N_worth_at) (O' := []) (m := m_worth_at Ps.ns) F sc_worth_at fun cdv A outer s H E hr => (pssv_one (psv_ret (pev_get (hu_of hr) (pev_callT (cr_dict rfl) (cu_dict _) rfl z_dict (by decide +kernel) (pav_cons (pev_var 0 (by decide)) pav_nil)) (pev_var 1 (by decide)) pev_int ⟨rfl, rfl, rfl, rfl⟩)))
end K33
set_option linter.all false
set_option Elab.async false
set_option maxRecDepth 100000
set_option maxHeartbeats 4000000
namespace K33
open PySem L2 UM Cm
def m_law (ns : List Int) : SM := (sSeq (sAsg 2 (eTup (aCons (eC (.str "turn")) (aCons (eC (.int 1)) (aCons (eTup (aCons (eTup (aCons (eC (.str "a")) (aCons (eTup (aCons (eC (.int 0)) (aCons (eTup (aCons (eTup (aCons (eC (.str "c")) (aCons (eC (.int 1)) aNil))) aNil)) aNil))) aNil))) (aCons (eTup (aCons (eC (.str "c")) (aCons (eTup (aCons (eC (.int 0)) (aCons (eTup (aCons (eTup (aCons (eC (.str "a")) (aCons (eC (.int 1)) aNil))) aNil)) aNil))) aNil))) aNil))) aNil))))) (sSeq (sAsg 3 (eTup (aCons (eC (.str "keep")) (aCons (eC (.int 1)) (aCons (eTup (aCons (eTup (aCons (eC (.str "b")) (aCons (eTup (aCons (eC (.int 0)) (aCons (eTup (aCons (eTup (aCons (eC (.str "b")) (aCons (eC (.int 1)) aNil))) aNil)) aNil))) aNil))) aNil)) aNil))))) (sSeq (sFor (aRng1 (eC (.int 4))) (gNm 4) (sSeq (sAsg 5 (eCallN 3 (mf__law_row ns) (aCons (eVar 0) (aCons (eVar 1) (aCons (eC (.int 5)) aNil))))) (sSeq (sAsg 6 (eFn fTuple (aCons (eLc (aItems (eCallN 3 (mf__law_row ns) (aCons (eVar 0) (aCons (eVar 1) (aCons (eC (.int 5)) aNil))))) [7, 8, 9] (gTp 3 (gsCons (gNm 7) (gsCons (gNm 8) (gsCons (gNm 9) gsNil)))) bYes (eTup (aCons (eBin fAdd (eC (.str "z")) (eSl (eVar 7) oNo (oYes (eC (.int 2))))) (aCons (eVar 8) (aCons (eVar 9) aNil))))) aNil))) (sSeq (sAsg 6 (eSl (eBin fAdd (eVar 6) (eTup (aCons (eVar 2) (aCons (eVar 3) aNil)))) (oYes (eCallN 3 (mf__law_draw ns) (aCons (eVar 0) (aCons (eVar 1) (aCons (eC (.int 3)) aNil))))) oNo)) (sSeq (sIf (bVal (eBin fNe (eCallN 1 (mf_map_of ns) (aCons (eBin fAdd (eVar 5) (eVar 6)) aNil)) (eCallN 2 (mf__law_both ns) (aCons (eCallN 1 (mf_map_of ns) (aCons (eVar 5) aNil)) (aCons (eCallN 1 (mf_map_of ns) (aCons (eVar 6) aNil)) aNil))))) (sRet (eC (.bl false))) sSkip) (sSeq (sPar 10 11 (aCons (eCallN 3 (mf_joined ns) (aCons (eC (.str "all")) (aCons (eC (.int 3)) (aCons (eBin fAdd (eVar 5) (eVar 6)) aNil)))) (aCons (eCallN 2 (mf__law_store ns) (aCons (eVar 0) (aCons (eVar 1) aNil))) aNil))) (sSeq (sIf (bOr (bVal (eBin fNe (eCallN 1 (mf_writes ns) (aCons (eVar 10) aNil)) (eCallN 1 (mf__law_written ns) (aCons (eBin fAdd (eVar 5) (eVar 6)) aNil)))) (bVal (eBin fNe (eSl (eVar 10) oNo (oYes (eC (.int 2)))) (eTup (aCons (eC (.str "all")) (aCons (eC (.int 3)) aNil)))))) (sRet (eC (.bl false))) sSkip) (sSeq (sIf (bOr (bVal (eBin fNe (eCallN 2 (mf_done ns) (aCons (eVar 11) (aCons (eVar 10) aNil))) (eCallN 2 (mf_run ns) (aCons (eVar 11) (aCons (eBin fAdd (eVar 5) (eVar 6)) aNil))))) (bVal (eBin fNe (eCallN 3 (mf_joined ns) (aCons (eC (.str "all")) (aCons (eC (.int 3)) (aCons (eTup (aCons (eVar 10) aNil)) aNil)))) (eVar 10)))) (sRet (eC (.bl false))) sSkip) (sSeq (sIf (bOr (bNot (bTru ns (eCallN 2 (mf_are_alike ns) (aCons (eTup (aCons (eVar 10) aNil)) (aCons (eBin fAdd (eVar 5) (eVar 6)) aNil))))) (bVal (eBin fNe (eCallN 1 (mf_is_idle ns) (aCons (eVar 10) aNil)) (eBin fEq (eCallN 1 (mf_map_of ns) (aCons (eBin fAdd (eVar 5) (eVar 6)) aNil)) (eTup aNil))))) (sRet (eC (.bl false))) sSkip) (sFor (aItems (eCallN 1 (mf_map_of ns) (aCons (eBin fAdd (eVar 5) (eVar 6)) aNil))) (gTp 2 (gsCons (gNm 12) (gsCons (gNm 13) gsNil))) (sIf (bVal (eBin fNe (eCallN 2 (mf_worth_at ns) (aCons (eCallN 2 (mf_run ns) (aCons (eVar 11) (aCons (eBin fAdd (eVar 5) (eVar 6)) aNil))) (aCons (eVar 12) aNil))) (eCallN 2 (mf_worth_of ns) (aCons (eVar 13) (aCons (eFn fDict (aCons (eVar 11) aNil)) aNil))))) (sRet (eC (.bl false))) sSkip))))))))))) (sSeq (sIf (bOr (bTru ns (eCallN 1 (mf_is_idle ns) (aCons (eVar 2) aNil))) (bOr (bNot (bTru ns (eCallN 1 (mf_is_idle ns) (aCons (eVar 3) aNil)))) (bOr (bVal (eBin fNe (eCallN 1 (mf_map_of ns) (aCons (eTup (aCons (eVar 2) (aCons (eVar 2) aNil))) aNil)) (eTup aNil))) (bNot (bTru ns (eCallN 2 (mf_are_alike ns) (aCons (eTup (aCons (eVar 3) aNil)) (aCons (eTup aNil) aNil)))))))) (sRet (eC (.bl false))) sSkip) (sRet (eC (.bl true)))))))
abbrev N_law : List Str := ["_law_script", "_law_town", "_law_turn", "_law_keep", "_law_k", "_law_one", "_law_other", "_law_name", "_law_ticks", "_law_parts", "_law_deed", "_law_store_here", "_law_cell", "_law_form_here"]
theorem sc_law : FnScope N_law ["_law_script"] (defScope s_law) := ⟨rfl, rfl, rfl, by decide +kernel, rfl, by decide +kernel, by decide +kernel⟩
theorem rest_law {P : Program} {w : World} {K : PySem.W.Frag} {mg : Str → Option Value} {base : Heap} {Ps : Tb} {f : Addr} {f__law_row : Addr} {fd__law_row : FuncData} {f__law_draw : Addr} {fd__law_draw : FuncData} {f_map_of : Addr} {fd_map_of : FuncData} {f__law_both : Addr} {fd__law_both : FuncData} {f__law_store : Addr} {fd__law_store : FuncData} {f_joined : Addr} {fd_joined : FuncData} {f_writes : Addr} {fd_writes : FuncData} {f__law_written : Addr} {fd__law_written : FuncData} {f_done : Addr} {fd_done : FuncData} {f_run : Addr} {fd_run : FuncData} {f_are_alike : Addr} {fd_are_alike : FuncData} {f_is_idle : Addr} {fd_is_idle : FuncData} {f_worth_at : Addr} {fd_worth_at : FuncData} {f_worth_of : Addr} {fd_worth_of : FuncData} (G__law_row : FnOk P w K mg base CX0 4 f__law_row fd__law_row ["_law_script", "_law_town", "_law_most"] (spM K Ps 3 (mf__law_row Ps.ns))) (b__law_row : Binds K fd__law_row ["_law_script", "_law_town", "_law_most"] []) (k__law_row : PySem.W.keepIn K (.ref f__law_row) = true) (m__law_row : mg "_law_row" = some (.ref f__law_row)) (G__law_draw : FnOk P w K mg base CX0 1 f__law_draw fd__law_draw ["_law_script", "_law_town", "_law_many"] (spM K Ps 3 (mf__law_draw Ps.ns))) (b__law_draw : Binds K fd__law_draw ["_law_script", "_law_town", "_law_many"] []) (k__law_draw : PySem.W.keepIn K (.ref f__law_draw) = true) (m__law_draw : mg "_law_draw" = some (.ref f__law_draw)) (G_map_of : FnOk P w K mg base CX0 6 f_map_of fd_map_of ["row"] (spM K Ps 1 (mf_map_of Ps.ns))) (b_map_of : Binds K fd_map_of ["row"] []) (k_map_of : PySem.W.keepIn K (.ref f_map_of) = true) (m_map_of : mg "map_of" = some (.ref f_map_of)) (G__law_both : FnOk P w K mg base CX0 5 f__law_both fd__law_both ["_law_first", "_law_second"] (spM K Ps 2 (mf__law_both Ps.ns))) (b__law_both : Binds K fd__law_both ["_law_first", "_law_second"] []) (k__law_both : PySem.W.keepIn K (.ref f__law_both) = true) (m__law_both : mg "_law_both" = some (.ref f__law_both)) (G__law_store : FnOk P w K mg base CX0 3 f__law_store fd__law_store ["_law_script", "_law_town"] (spM K Ps 2 (mf__law_store Ps.ns))) (b__law_store : Binds K fd__law_store ["_law_script", "_law_town"] []) (k__law_store : PySem.W.keepIn K (.ref f__law_store) = true) (m__law_store : mg "_law_store" = some (.ref f__law_store)) (G_joined : FnOk P w K mg base CX0 6 f_joined fd_joined ["name", "ticks", "row"] (spM K Ps 3 (mf_joined Ps.ns))) (b_joined : Binds K fd_joined ["name", "ticks", "row"] []) (k_joined : PySem.W.keepIn K (.ref f_joined) = true) (m_joined : mg "joined" = some (.ref f_joined)) (G_writes : FnOk P w K mg base CX0 2 f_writes fd_writes ["deed"] (spM K Ps 1 (mf_writes Ps.ns))) (b_writes : Binds K fd_writes ["deed"] []) (k_writes : PySem.W.keepIn K (.ref f_writes) = true) (m_writes : mg "writes" = some (.ref f_writes)) (G__law_written : FnOk P w K mg base CX0 3 f__law_written fd__law_written ["_law_row_here"] (spM K Ps 1 (mf__law_written Ps.ns))) (b__law_written : Binds K fd__law_written ["_law_row_here"] []) (k__law_written : PySem.W.keepIn K (.ref f__law_written) = true) (m__law_written : mg "_law_written" = some (.ref f__law_written)) (G_done : FnOk P w K mg base CX0 4 f_done fd_done ["store", "deed"] (spM K Ps 2 (mf_done Ps.ns))) (b_done : Binds K fd_done ["store", "deed"] []) (k_done : PySem.W.keepIn K (.ref f_done) = true) (m_done : mg "done" = some (.ref f_done)) (G_run : FnOk P w K mg base CX0 5 f_run fd_run ["store", "row"] (spM K Ps 2 (mf_run Ps.ns))) (b_run : Binds K fd_run ["store", "row"] []) (k_run : PySem.W.keepIn K (.ref f_run) = true) (m_run : mg "run" = some (.ref f_run)) (G_are_alike : FnOk P w K mg base CX0 7 f_are_alike fd_are_alike ["one", "other"] (spM K Ps 2 (mf_are_alike Ps.ns))) (b_are_alike : Binds K fd_are_alike ["one", "other"] []) (k_are_alike : PySem.W.keepIn K (.ref f_are_alike) = true) (m_are_alike : mg "are_alike" = some (.ref f_are_alike)) (G_is_idle : FnOk P w K mg base CX0 7 f_is_idle fd_is_idle ["deed"] (spM K Ps 1 (mf_is_idle Ps.ns))) (b_is_idle : Binds K fd_is_idle ["deed"] []) (k_is_idle : PySem.W.keepIn K (.ref f_is_idle) = true) (m_is_idle : mg "is_idle" = some (.ref f_is_idle)) (G_worth_at : FnOk P w K mg base CX0 1 f_worth_at fd_worth_at ["store", "cell"] (spM K Ps 2 (mf_worth_at Ps.ns))) (b_worth_at : Binds K fd_worth_at ["store", "cell"] []) (k_worth_at : PySem.W.keepIn K (.ref f_worth_at) = true) (m_worth_at : mg "worth_at" = some (.ref f_worth_at)) (G_worth_of : FnOk P w K mg base CX0 1 f_worth_of fd_worth_of ["form", "table"] (spM K Ps 2 (mf_worth_of Ps.ns))) (b_worth_of : Binds K fd_worth_of ["form", "table"] []) (k_worth_of : PySem.W.keepIn K (.ref f_worth_of) = true) (m_worth_of : mg "worth_of" = some (.ref f_worth_of)) (z_range : mg "range" = none) (z_tuple : mg "tuple" = none) (z_dict : mg "dict" = none) (cdv : Value) (A : Around) (outer : List Env) (s : Shared) (H : Hp) (E : XK) (hr : Room 7 (A.deeper (PyProof.Rows.envOfC "law" (defScope s_law) s.heap.objs.size f cdv))) :
    PSsV (cxOf CX0 P w K mg base N_law "law" (defScope s_law) f cdv A outer s H E).nox Ps [] [] [] (defBody s_law).tail (m_law Ps.ns) :=
  (pssv_cons (psv_asg (O' := []) 2 sc_law.nd (oM (by decide)) (pev_tup (pav_cons pev_str (pav_cons pev_int (pav_cons (pev_tup (pav_cons (pev_tup (pav_cons pev_str (pav_cons (pev_tup (pav_cons pev_int (pav_cons (pev_tup (pav_cons (pev_tup (pav_cons pev_str (pav_cons pev_int pav_nil))) pav_nil)) pav_nil))) pav_nil))) (pav_cons (pev_tup (pav_cons pev_str (pav_cons (pev_tup (pav_cons pev_int (pav_cons (pev_tup (pav_cons (pev_tup (pav_cons pev_str (pav_cons pev_int pav_nil))) pav_nil)) pav_nil))) pav_nil))) pav_nil))) pav_nil))))) (pssv_cons (psv_asg (O' := []) 3 sc_law.nd (oM (by decide)) (pev_tup (pav_cons pev_str (pav_cons pev_int (pav_cons (pev_tup (pav_cons (pev_tup (pav_cons pev_str (pav_cons (pev_tup (pav_cons pev_int (pav_cons (pev_tup (pav_cons (pev_tup (pav_cons pev_str (pav_cons pev_int pav_nil))) pav_nil)) pav_nil))) pav_nil))) pav_nil)) pav_nil))))) (pssv_cons (psv_for (vs := [4]) PassesOwn.never rfl (piv_rng1 rfl z_range pev_int) (pgv_name 4 sc_law.nd (by decide) (by decide)) (pssv_cons (psv_asg (O' := []) 5 sc_law.nd (oM (by decide)) (pev_call G__law_row (hr.mono (by decide)) rfl m__law_row k__law_row b__law_row (pav_cons (pev_var 0 (by decide)) (pav_cons (pev_var 1 (by decide)) (pav_cons pev_int pav_nil))))) (pssv_cons (psv_asg (O' := []) 6 sc_law.nd (oM (by decide)) (pev_callT call_tuple_of (cu_tuple _) rfl z_tuple (by decide +kernel) (pav_cons (pev_lc (own := [("_law_name", 7), ("_law_ticks", 8), ("_law_parts", 9)]) (vs := [7, 8, 9]) rfl sc_law.nd (piv_val (pev_call G__law_row (hr.mono (by decide)) rfl m__law_row k__law_row b__law_row (pav_cons (pev_var 0 (by decide)) (pav_cons (pev_var 1 (by decide)) (pav_cons pev_int pav_nil))))) (blkOk_by (N := N_law) (sc := defScope s_law) (by decide +kernel)) rfl (gonly_tup (gsonly_cons (gonly_name (by decide)) (gsonly_cons (gonly_name (by decide)) (gsonly_cons (gonly_name (by decide)) gsonly_nil)))) (fun _ _ _ _ _ => (pgv_tup rfl (pgsv_cons (pgv_name 7 sc_law.nd (by decide) (by decide)) (pgsv_cons (pgv_name 8 sc_law.nd (by decide) (by decide)) (pgsv_cons (pgv_name 9 sc_law.nd (by decide) (by decide)) pgsv_nil))))) (fun _ _ _ _ _ => ptsv_nil) (fun _ _ _ _ _ => (pev_tup (pav_cons (pev_op op_addU (opu_add _) pev_str (pev_sl (pev_var 7 (by decide)) pov_no (pov_yes pev_int))) (pav_cons (pev_var 8 (by decide)) (pav_cons (pev_var 9 (by decide)) pav_nil)))))) pav_nil))) (pssv_cons (psv_asg (O' := []) 6 sc_law.nd (oM (by decide)) (pev_sl (pev_op op_addU (opu_add _) (pev_var 6 (by decide)) (pev_tup (pav_cons (pev_var 2 (by decide)) (pav_cons (pev_var 3 (by decide)) pav_nil)))) (pov_yes (pev_call G__law_draw (hr.mono (by decide)) rfl m__law_draw k__law_draw b__law_draw (pav_cons (pev_var 0 (by decide)) (pav_cons (pev_var 1 (by decide)) (pav_cons pev_int pav_nil))))) pov_no)) (pssv_cons (psv_if (pbv_cmpR (op_neD hr.units) (opu_ne _) (pev_call G_map_of (hr.mono (by decide)) rfl m_map_of k_map_of b_map_of (pav_cons (pev_op op_addU (opu_add _) (pev_var 5 (by decide)) (pev_var 6 (by decide))) pav_nil)) (pev_call G__law_both (hr.mono (by decide)) rfl m__law_both k__law_both b__law_both (pav_cons (pev_call G_map_of (hr.mono (by decide)) rfl m_map_of k_map_of b_map_of (pav_cons (pev_var 5 (by decide)) pav_nil)) (pav_cons (pev_call G_map_of (hr.mono (by decide)) rfl m_map_of k_map_of b_map_of (pav_cons (pev_var 6 (by decide)) pav_nil)) pav_nil))) (nomark _)) (pssv_one (psv_ret pev_bl)) pssv_nil) (pssv_cons (psv_par 10 11 rfl sc_law.nd (by decide) (by decide) (by decide) (pav_cons (pev_call G_joined (hr.mono (by decide)) rfl m_joined k_joined b_joined (pav_cons pev_str (pav_cons pev_int (pav_cons (pev_op op_addU (opu_add _) (pev_var 5 (by decide)) (pev_var 6 (by decide))) pav_nil)))) (pav_cons (pev_call G__law_store (hr.mono (by decide)) rfl m__law_store k__law_store b__law_store (pav_cons (pev_var 0 (by decide)) (pav_cons (pev_var 1 (by decide)) pav_nil))) pav_nil))) (pssv_cons (psv_if (PWV.pbv (pwv_or (pbv_cmpR (op_neD hr.units) (opu_ne _) (pev_call G_writes (hr.mono (by decide)) rfl m_writes k_writes b_writes (pav_cons (pev_var 10 (by decide)) pav_nil)) (pev_call G__law_written (hr.mono (by decide)) rfl m__law_written k__law_written b__law_written (pav_cons (pev_op op_addU (opu_add _) (pev_var 5 (by decide)) (pev_var 6 (by decide))) pav_nil)) (nomark _)) (pwv_or1 (pbv_cmpR (op_neD hr.units) (opu_ne _) (pev_sl (pev_var 10 (by decide)) pov_no (pov_yes pev_int)) (pev_tup (pav_cons pev_str (pav_cons pev_int pav_nil))) (nomark _))))) (pssv_one (psv_ret pev_bl)) pssv_nil) (pssv_cons (psv_if (PWV.pbv (pwv_or (pbv_cmpR (op_neD hr.units) (opu_ne _) (pev_call G_done (hr.mono (by decide)) rfl m_done k_done b_done (pav_cons (pev_var 11 (by decide)) (pav_cons (pev_var 10 (by decide)) pav_nil))) (pev_call G_run (hr.mono (by decide)) rfl m_run k_run b_run (pav_cons (pev_var 11 (by decide)) (pav_cons (pev_op op_addU (opu_add _) (pev_var 5 (by decide)) (pev_var 6 (by decide))) pav_nil))) (nomark _)) (pwv_or1 (pbv_cmpR (op_neD hr.units) (opu_ne _) (pev_call G_joined (hr.mono (by decide)) rfl m_joined k_joined b_joined (pav_cons pev_str (pav_cons pev_int (pav_cons (pev_tup (pav_cons (pev_var 10 (by decide)) pav_nil)) pav_nil)))) (pev_var 10 (by decide)) (nomark _))))) (pssv_one (psv_ret pev_bl)) pssv_nil) (pssv_cons (psv_if (PWV.pbv (pwv_or (pbv_not (pbv_tru (pev_call G_are_alike (hr.mono (by decide)) rfl m_are_alike k_are_alike b_are_alike (pav_cons (pev_tup (pav_cons (pev_var 10 (by decide)) pav_nil)) (pav_cons (pev_op op_addU (opu_add _) (pev_var 5 (by decide)) (pev_var 6 (by decide))) pav_nil))))) (pwv_or1 (pbv_cmpR (op_neD hr.units) (opu_ne _) (pev_call G_is_idle (hr.mono (by decide)) rfl m_is_idle k_is_idle b_is_idle (pav_cons (pev_var 10 (by decide)) pav_nil)) (pev_cmpR (op_eqD hr.units) (opu_eq _) (pev_call G_map_of (hr.mono (by decide)) rfl m_map_of k_map_of b_map_of (pav_cons (pev_op op_addU (opu_add _) (pev_var 5 (by decide)) (pev_var 6 (by decide))) pav_nil)) (pev_tup pav_nil) (nomark _)) (nomark _))))) (pssv_one (psv_ret pev_bl)) pssv_nil) (pssv_one (psv_for (vs := [12, 13]) PassesOwn.never rfl (piv_val (pev_call G_map_of (hr.mono (by decide)) rfl m_map_of k_map_of b_map_of (pav_cons (pev_op op_addU (opu_add _) (pev_var 5 (by decide)) (pev_var 6 (by decide))) pav_nil))) (pgv_tup rfl (pgsv_cons (pgv_name 12 sc_law.nd (by decide) (by decide)) (pgsv_cons (pgv_name 13 sc_law.nd (by decide) (by decide)) pgsv_nil))) (pssv_one (psv_if (pbv_cmpR (op_neD hr.units) (opu_ne _) (pev_call G_worth_at (hr.mono (by decide)) rfl m_worth_at k_worth_at b_worth_at (pav_cons (pev_call G_run (hr.mono (by decide)) rfl m_run k_run b_run (pav_cons (pev_var 11 (by decide)) (pav_cons (pev_op op_addU (opu_add _) (pev_var 5 (by decide)) (pev_var 6 (by decide))) pav_nil))) (pav_cons (pev_var 12 (by decide)) pav_nil))) (pev_call G_worth_of (hr.mono (by decide)) rfl m_worth_of k_worth_of b_worth_of (pav_cons (pev_var 13 (by decide)) (pav_cons (pev_callT (cr_dict rfl) (cu_dict _) rfl z_dict (by decide +kernel) (pav_cons (pev_var 11 (by decide)) pav_nil)) pav_nil))) (nomark _)) (pssv_one (psv_ret pev_bl)) pssv_nil))))))))))))) (pssv_cons (psv_if (PWV.pbv (pwv_or (pbv_tru (pev_call G_is_idle (hr.mono (by decide)) rfl m_is_idle k_is_idle b_is_idle (pav_cons (pev_var 2 (by decide)) pav_nil))) (pwv_or (pbv_not (pbv_tru (pev_call G_is_idle (hr.mono (by decide)) rfl m_is_idle k_is_idle b_is_idle (pav_cons (pev_var 3 (by decide)) pav_nil)))) (pwv_or (pbv_cmpR (op_neD hr.units) (opu_ne _) (pev_call G_map_of (hr.mono (by decide)) rfl m_map_of k_map_of b_map_of (pav_cons (pev_tup (pav_cons (pev_var 2 (by decide)) (pav_cons (pev_var 2 (by decide)) pav_nil))) pav_nil)) (pev_tup pav_nil) (nomark _)) (pwv_or1 (pbv_not (pbv_tru (pev_call G_are_alike (hr.mono (by decide)) rfl m_are_alike k_are_alike b_are_alike (pav_cons (pev_tup (pav_cons (pev_var 3 (by decide)) pav_nil)) (pav_cons (pev_tup pav_nil) pav_nil)))))))))) (pssv_one (psv_ret pev_bl)) pssv_nil) (pssv_one (psv_ret pev_bl))))))
end K33
set_option linter.all false
set_option Elab.async false
set_option maxRecDepth 100000
set_option maxHeartbeats 1000000
namespace Cm
open PySem L2 UM
theorem sSeq_nx {a b : SM} {env env' : En} {k k' : Nat} (h : a env k = some (.nx env', k')) : sSeq a b env k = b env' k' := by
  unfold sSeq; rw [h]; rfl
theorem runM_rt {N : Nat} {m : SM} {us : List U} {k k' : Nat} {u : U} (h : m (us.map some ++ List.replicate (N - us.length) none) k = some (.rt u, k')) : runM N m us k = some (u, k') := by
  unfold runM; rw [h]
theorem strKs_emb : ∀ d : List (Str × Int), strKs (emb d) = some (keysD d)
  | [] => rfl
  | p :: d => by
    show (strKs (emb d)).map (p.1 :: ·) = some (keysD (p :: d))
    rw [strKs_emb d]; rfl
theorem sorted_emb {d : List (Str × Int)} (h : d.length ≤ 8) : fSorted [.dct (emb d)] = some (.lst ((sortS (keysD d)).map U.str)) := by
  have hl : (keysD d).length = d.length := by simp [keysD]
  simp only [fSorted, strKs_emb, Option.bind_some, hl]
  rw [if_pos (by omega)]
theorem cells_eq {d : List (Str × Int)} (hd : (keysD d).Nodup) (hs : ∀ c ∈ keysD d, c ∈ C8) : (sortS (keysD d)).filter (fun c => co d c != 0) = C8.filter fun c => co d c != 0 := by
  have hp := sortS_perm (keysD d)
  refine perm_unique (r := fun a b => leS a b = true) (fun _ _ => leS_antisymm) ?_ ((sortS_pw _).filter _) (c8_rise.filter _)
  refine (List.perm_ext_iff_of_nodup ((hp.nodup_iff.mpr hd).filter _) (c8_nodup.filter _)).mpr fun c => ?_
  rw [List.mem_filter, List.mem_filter, hp.mem_iff]
  constructor
  · exact fun ⟨h1, h2⟩ => ⟨hs c h1, h2⟩
  · rintro ⟨h1, h2⟩
    refine ⟨?_, h2⟩
    by_cases z : c ∈ keysD d
    · exact z
    · rw [co_out z] at h2; simp at h2
theorem idx_emb {d : List (Str × Int)} {c : Str} (h : c ∈ keysD d) : fIdx (.dct (emb d)) (.str c) = some (.int (co d c)) := by
  simp only [fIdx, toKey, Option.bind_some]
  exact emb_get_in h
theorem pairs_encT : ∀ ts : List (Str × Int), pairsU (encT ts) = some (emb ts)
  | [] => rfl
  | p :: ts => by
    show ((pairU (.tup [.str p.1, .int p.2])).bind fun q => (pairsU (encT ts)).map (q :: ·)) = _
    rw [pairs_encT ts]; rfl
theorem merge_emb : ∀ (ts d : List (Str × Int)), kmerge (emb d) (emb ts) = emb (ts.foldl (fun a p => sput a p.1 p.2) d)
  | [], d => rfl
  | p :: ts, d => by
    show kmerge (kput (emb d) (.inr p.1) (.int p.2)) (emb ts) = _
    rw [emb_put, merge_emb ts]; rfl
theorem fold_new : ∀ (ts d : List (Str × Int)), (keysD (d ++ ts)).Nodup → ts.foldl (fun a p => sput a p.1 p.2) d = d ++ ts
  | [], d, _ => by simp
  | p :: ts, d, h => by
    have hp : p.1 ∉ keysD d := fun z => by
      unfold keysD at h z
      rw [List.map_append, List.nodup_append] at h
      exact h.2.2 p.1 z p.1 (by simp) rfl
    rw [List.foldl_cons, sput_keys_out hp, fold_new ts (d ++ [(p.1, p.2)]) (by simpa using h)]
    simp
theorem dict_encT {ts : List (Str × Int)} (h : (keysD ts).Nodup) : fDict [.tup (encT ts)] = some (.dct (emb ts)) := by
  simp only [fDict, pairs_encT, Option.map_some]
  have := merge_emb ts []
  rw [show emb [] = [] from rfl] at this
  rw [this, fold_new ts [] (by simpa using h)]
  rfl
def Sml (m : Int) : Prop := -(2 ^ 64) < m ∧ m < 2 ^ 64
theorem fMul_r {i m : Int} (h : Sml m) : fMul (.int i) (.int m) = some (.int (i * m)) := by
  simp only [fMul]
  rw [if_pos (.inr h)]
theorem fMul_l {i m : Int} (h : Sml i) : fMul (.int i) (.int m) = some (.int (i * m)) := by
  simp only [fMul]
  rw [if_pos (.inl h)]
theorem ints_map : ∀ l : List Int, intsU (l.map U.int) = some l
  | [] => rfl
  | x :: l => by show (intsU (l.map U.int)).map (x :: ·) = _; rw [ints_map l]; rfl
theorem lc_worth (u0 : U) (x2 x3 : Option U) (w : List (Str × Int)) (k : Nat) : ∀ ts : List (Str × Int), (∀ p ∈ ts, Sml p.2 ∨ Sml (co w p.1)) →
    lcL (gTp 2 (gsCons (gNm 4) (gsCons (gNm 5) gsNil))) bYes (eBin fMul (eVar 5) (eGet (eVar 1) (eVar 4) (eC (.int 0)))) [some u0, some (.dct (emb w)), x2, x3, none, none] (encT ts) k = some ((ts.map fun p => p.2 * co w p.1).map U.int, k)
  | [], _ => rfl
  | p :: ts, h => by
    have ih := lc_worth u0 x2 x3 w k ts fun q hq => h q (List.mem_cons_of_mem _ hq)
    have hm : fMul (.int p.2) (.int (co w p.1)) = some (.int (p.2 * co w p.1)) := (h p List.mem_cons_self).elim fMul_l fMul_r
    show lcL _ _ _ _ (.tup [.str p.1, .int p.2] :: encT ts) _ = _
    simp [lcL, gTp, itemsT, gsCons, gNm, gsNil, bYes, eVar, eBin, eGet, eC, toKey, emb_getD, hm, ih]
theorem worth_of_eq (ns : List Int) (a : Int) {φ : Str → Int} {w : List (Str × Int)} (h : ∀ c ∈ C8, Sml (φ c) ∨ Sml (co w c)) (k : Nat) : mf_worth_of ns [E a φ, .dct (emb w)] k = some (.int (a + sm fun c => φ c * co w c), k) := by
  have hts : ∀ p ∈ nf φ, Sml p.2 ∨ Sml (co w p.1) := fun p hp => by
    obtain ⟨c, hc, rfl⟩ := List.mem_map.mp hp
    exact h c (List.mem_filter.mp hc).1
  have hl := lc_worth (E a φ) (some (.int a)) (some (.tup (encT (nf φ)))) w k (nf φ) hts
  have h8 := keys_le (nf_nodup φ) (nf_sub φ)
  have hz : (nf φ).length ≤ 1000 := by omega
  have hsum : fSum [.lst (((nf φ).map fun p => p.2 * co w p.1).map U.int)] = some (.int (sm fun c => φ c * co w c)) := by
    simp only [fSum, ints_map, Option.map_some, sum_nf]
  have s1 : sAsgG (gTp 2 (gsCons (gNm 2) (gsCons (gNm 3) gsNil))) (eVar 0) [some (E a φ), some (.dct (emb w)), none, none, none, none] k = some (.nx [some (E a φ), some (.dct (emb w)), some (.int a), some (.tup (encT (nf φ))), none, none], k) := by
    simp [sAsgG, eVar, E, gTp, itemsT, gsCons, gNm, gsNil]
  refine runM_rt (k' := k) ?_
  show m_worth_of ns [some (E a φ), some (.dct (emb w)), none, none, none, none] k = _
  unfold m_worth_of
  rw [sSeq_nx s1]
  have e1 : eLc (aItems (eVar 3)) [4, 5] (gTp 2 (gsCons (gNm 4) (gsCons (gNm 5) gsNil))) bYes (eBin fMul (eVar 5) (eGet (eVar 1) (eVar 4) (eC (.int 0)))) [some (E a φ), some (.dct (emb w)), some (.int a), some (.tup (encT (nf φ))), none, none] k = some (.lst (((nf φ).map fun p => p.2 * co w p.1).map U.int), k) := by
    simp only [eLc, aItems, eVar, List.getElem?_cons_succ, List.getElem?_cons_zero, Option.bind_some, itemsU, wipeE, List.set_cons_succ, List.set_cons_zero, hl, List.length_map]
    rw [if_pos hz]
  have e2 : eFn fSum (aCons (eLc (aItems (eVar 3)) [4, 5] (gTp 2 (gsCons (gNm 4) (gsCons (gNm 5) gsNil))) bYes (eBin fMul (eVar 5) (eGet (eVar 1) (eVar 4) (eC (.int 0))))) aNil) [some (E a φ), some (.dct (emb w)), some (.int a), some (.tup (encT (nf φ))), none, none] k = some (.int (sm fun c => φ c * co w c), k) := by
    simp only [eFn, aCons, e1, Option.bind_some, aNil, hsum]
  have e3 : eVar 2 [some (E a φ), some (.dct (emb w)), some (.int a), some (.tup (encT (nf φ))), none, none] k = some (.int a, k) := rfl
  simp only [sRet, eBin, e3, e2, Option.bind_some, fAdd]
theorem fMod_pos {i m : Int} (h : 0 < m) : fMod (.int i) (.int m) = some (.int (i % m)) := by
  simp only [fMod]; rw [if_pos h]
theorem atI_some {α : Type} {xs : List α} {i : Int} (h0 : 0 ≤ i) (h1 : i < xs.length) : ∃ x ∈ xs, atI xs i = some x := by
  have hk : i.toNat < xs.length := by omega
  refine ⟨xs[i.toNat], List.getElem_mem hk, ?_⟩
  unfold atI ixN
  rw [if_pos h0, if_pos h1]
  exact List.getElem?_eq_getElem hk
theorem mixN {n q : Int} (h0 : 0 ≤ n) (h1 : n < 4294967291) (hq : 0 ≤ q ∧ q < 2 ^ 62) :
    fMul (.int n) (.int n) = some (.int (n * n)) ∧ fMul (.int (n * n % 4294967279)) (.int q) = some (.int (n * n % 4294967279 * q)) := by
  have g1 := Int.emod_nonneg (n * n) (show (4294967279 : Int) ≠ 0 by decide)
  have g2 := Int.emod_lt_of_pos (n * n) (show (0 : Int) < 4294967279 by decide)
  exact ⟨fMul_l ⟨by omega, by omega⟩, fMul_l ⟨by omega, by omega⟩⟩
theorem draw_eq (ns : List Int) {m : Int} {k : Nat} (hm : 0 < m) (hk : k < 16000000) : ∃ v, mf__law_draw ns [.scr, .town, .int m] k = some (.int v, k + 1) ∧ 0 ≤ v ∧ v < m := by
  have s1 : sDrop (eTown 1 (eC (.int 0))) [some .scr, some .town, some (.int m), none, none, none, none] k = some (.nx [some .scr, some .town, some (.int m), none, none, none, none], k + 1) := by
    simp [sDrop, eTown, eC, hk]
  have s2 : sAsg 3 (eLen ns (eVar 1)) [some .scr, some .town, some (.int m), none, none, none, none] (k + 1) = some (.nx [some .scr, some .town, some (.int m), some (.int (k + 1 : Nat)), none, none, none], k + 1) := by
    simp [sAsg, eLen, eVar]
  have s3 : sAsg 4 (eC (.int 0)) [some .scr, some .town, some (.int m), some (.int (k + 1 : Nat)), none, none, none] (k + 1) = some (.nx [some .scr, some .town, some (.int m), some (.int (k + 1 : Nat)), some (.int 0), none, none], k + 1) := by
    simp [sAsg, eC]
  obtain ⟨cell, s4⟩ : ∃ cell, sIf (bTru ns (eVar 0)) (sAsg 4 (eIdx ns (eVar 0) (eBin fMod (eVar 3) (eLen ns (eVar 0))))) sSkip [some .scr, some .town, some (.int m), some (.int (k + 1 : Nat)), some (.int 0), none, none] (k + 1) = some (.nx [some .scr, some .town, some (.int m), some (.int (k + 1 : Nat)), some (.int cell), none, none], k + 1) := by
    cases ns with
    | nil => exact ⟨0, by simp [sIf, bTru, eVar, truU, sSkip]⟩
    | cons n ns =>
      have hl : (0 : Int) < ((n :: ns).length : Nat) := by simp only [List.length_cons]; omega
      obtain ⟨c, _, e⟩ := atI_some (xs := n :: ns) (i := ((k + 1 : Nat) : Int) % ((n :: ns).length : Nat)) (Int.emod_nonneg _ (by omega)) (Int.emod_lt_of_pos _ hl)
      refine ⟨c, ?_⟩
      have e1 : bTru (n :: ns) (eVar 0) [some .scr, some .town, some (.int m), some (.int (k + 1 : Nat)), some (.int 0), none, none] (k + 1) = some (true, k + 1) := by simp [bTru, eVar, truU]
      have e2 : eLen (n :: ns) (eVar 0) [some .scr, some .town, some (.int m), some (.int (k + 1 : Nat)), some (.int 0), none, none] (k + 1) = some (.int ((n :: ns).length : Nat), k + 1) := by simp [eLen, eVar]
      have e3 : eVar 3 [some .scr, some .town, some (.int m), some (.int (k + 1 : Nat)), some (.int 0), none, none] (k + 1) = some (.int (k + 1 : Nat), k + 1) := rfl
      have e4 : eVar 0 [some .scr, some .town, some (.int m), some (.int (k + 1 : Nat)), some (.int 0), none, none] (k + 1) = some (.scr, k + 1) := rfl
      simp only [sIf, e1, Option.bind_some, if_true, sAsg, eIdx, e4, eBin, e3, e2, fMod_pos hl, e, List.set_cons_succ, List.set_cons_zero]
  have c1 := Int.emod_nonneg (cell + 104729 * ((k + 1 : Nat) : Int)) (show (4294967291 : Int) ≠ 0 by decide)
  have c2 := Int.emod_lt_of_pos (cell + 104729 * ((k + 1 : Nat) : Int)) (show (0 : Int) < 4294967291 by decide)
  have s5 : sAsg 5 (eBin fMod (eBin fAdd (eVar 4) (eBin fMul (eC (.int 104729)) (eVar 3))) (eC (.int 4294967291))) [some .scr, some .town, some (.int m), some (.int (k + 1 : Nat)), some (.int cell), none, none] (k + 1) = some (.nx [some .scr, some .town, some (.int m), some (.int (k + 1 : Nat)), some (.int cell), some (.int ((cell + 104729 * ((k + 1 : Nat) : Int)) % 4294967291)), none], k + 1) := by
    have e1 : fMul (.int 104729) (.int ((k + 1 : Nat) : Int)) = some (.int (104729 * ((k + 1 : Nat) : Int))) := fMul_l ⟨by decide, by decide⟩
    simp only [sAsg, eBin, eVar, eC, List.getElem?_cons_succ, List.getElem?_cons_zero, Option.bind_some, e1, fAdd, fMod_pos (show (0 : Int) < 4294967291 by decide), List.set_cons_succ, List.set_cons_zero]
  generalize (cell + 104729 * ((k + 1 : Nat) : Int)) % 4294967291 = n1 at s5 c1 c2
  obtain ⟨f1, f2⟩ := mixN (q := 48271) c1 c2 (by decide)
  have s6 : sAsg 5 (eBin fMod (eBin fMul (eBin fMod (eBin fMul (eVar 5) (eVar 5)) (eC (.int 4294967279))) (eC (.int 48271))) (eC (.int 4294967291))) [some .scr, some .town, some (.int m), some (.int (k + 1 : Nat)), some (.int cell), some (.int n1), none] (k + 1) = some (.nx [some .scr, some .town, some (.int m), some (.int (k + 1 : Nat)), some (.int cell), some (.int (n1 * n1 % 4294967279 * 48271 % 4294967291)), none], k + 1) := by
    simp only [sAsg, eBin, eVar, eC, List.getElem?_cons_succ, List.getElem?_cons_zero, Option.bind_some, f1, f2, fMod_pos (show (0 : Int) < 4294967291 by decide), fMod_pos (show (0 : Int) < 4294967279 by decide), List.set_cons_succ, List.set_cons_zero]
  have d1 := Int.emod_nonneg (n1 * n1 % 4294967279 * 48271) (show (4294967291 : Int) ≠ 0 by decide)
  have d2 := Int.emod_lt_of_pos (n1 * n1 % 4294967279 * 48271) (show (0 : Int) < 4294967291 by decide)
  generalize n1 * n1 % 4294967279 * 48271 % 4294967291 = n2 at s6 d1 d2
  obtain ⟨f3, f4⟩ := mixN (q := 69621) d1 d2 (by decide)
  have s7 : sAsg 6 (eBin fMod (eBin fMul (eBin fMod (eBin fMul (eVar 5) (eVar 5)) (eC (.int 4294967279))) (eC (.int 69621))) (eC (.int 4294967291))) [some .scr, some .town, some (.int m), some (.int (k + 1 : Nat)), some (.int cell), some (.int n2), none] (k + 1) = some (.nx [some .scr, some .town, some (.int m), some (.int (k + 1 : Nat)), some (.int cell), some (.int n2), some (.int (n2 * n2 % 4294967279 * 69621 % 4294967291))], k + 1) := by
    simp only [sAsg, eBin, eVar, eC, List.getElem?_cons_succ, List.getElem?_cons_zero, Option.bind_some, f3, f4, fMod_pos (show (0 : Int) < 4294967291 by decide), fMod_pos (show (0 : Int) < 4294967279 by decide), List.set_cons_succ, List.set_cons_zero]
  generalize n2 * n2 % 4294967279 * 69621 % 4294967291 = n3 at s7
  refine ⟨(n2 / 64 * 67108864 + n3 / 64) % m, runM_rt (k' := k + 1) ?_, Int.emod_nonneg _ (by omega), Int.emod_lt_of_pos _ hm⟩
  show m__law_draw ns [some .scr, some .town, some (.int m), none, none, none, none] k = _
  unfold m__law_draw
  rw [sSeq_nx s1, sSeq_nx s2, sSeq_nx s3, sSeq_nx s4, sSeq_nx s5, sSeq_nx s6, sSeq_nx s7]
  have g1 : fDiv (.int n2) (.int 64) = some (.int (n2 / 64)) := by simp [fDiv]
  have g2 : fDiv (.int n3) (.int 64) = some (.int (n3 / 64)) := by simp [fDiv]
  have g3 : fMul (.int (n2 / 64)) (.int 67108864) = some (.int (n2 / 64 * 67108864)) := fMul_r ⟨by decide, by decide⟩
  simp only [sRet, eBin, eVar, eC, List.getElem?_cons_succ, List.getElem?_cons_zero, Option.bind_some, g1, g2, g3, fAdd, fMod_pos hm]
theorem pick_eq (ns : List Int) {us : List U} {k : Nat} (hu : us ≠ []) (hk : k < 16000000) : ∃ u ∈ us, mf__law_pick ns [.scr, .town, .lst us] k = some (u, k + 1) := by
  have hl : 0 < us.length := List.length_pos_iff.mpr hu
  obtain ⟨v, e, h0, h1⟩ := draw_eq ns (m := us.length) (k := k) (by omega) hk
  obtain ⟨u, hm, e2⟩ := atI_some (xs := us) h0 h1
  refine ⟨u, hm, runM_rt (k' := k + 1) ?_⟩
  show m__law_pick ns [some .scr, some .town, some (.lst us)] k = _
  unfold m__law_pick
  have e3 : eLen ns (eVar 2) [some .scr, some .town, some (.lst us)] k = some (.int us.length, k) := by simp [eLen, eVar, fLen]
  simp [sRet, eIdx, eCallN, aCons, aNil, eVar, e3, e, fIdx, e2]
theorem str8 : (("abcdefgh" : Str).cps.toList.map fun c => U.str ⟨#[c]⟩) = C8.map U.str := by rfl
theorem kput_new {α : Type} {kvs : List (Key × α)} {k : Key} {v : α} (h : k ∉ kvs.map (·.1)) : kput kvs k v = kvs ++ [(k, v)] := by
  unfold kput
  rw [if_neg]
  rw [List.any_eq_true]
  rintro ⟨p, hp, e⟩
  exact h (by rw [← of_decide_eq_true e]; exact List.mem_map_of_mem hp)
theorem kmerge_new {α : Type} : ∀ (more kvs : List (Key × α)), ((kvs ++ more).map (·.1)).Nodup → kmerge kvs more = kvs ++ more
  | [], kvs, _ => by simp [kmerge]
  | p :: more, kvs, h => by
    have hp : p.1 ∉ kvs.map (·.1) := fun z => by
      rw [List.map_append, List.nodup_append] at h
      exact h.2.2 p.1 z p.1 (by simp) rfl
    show kmerge (kput kvs p.1 p.2) more = _
    rw [kput_new hp, kmerge_new more _ (by simpa using h)]
    simp
theorem nodup_inr {l : List Str} (h : l.Nodup) : (l.map (Sum.inr : Str → Key)).Nodup := by
  rw [List.nodup_iff_pairwise_ne, List.pairwise_map]
  exact h.imp fun h z => h (Sum.inr.inj z)
end Cm
set_option linter.all false
set_option Elab.async false
set_option maxRecDepth 100000
set_option maxHeartbeats 1000000
namespace Cm
open PySem L2 UM
theorem forL_ind {g : GM} {body : SM} (I : List U → En → Nat → Prop) (h : ∀ u us env k, I (u :: us) env k → ∃ env1 e k', g u env = some env1 ∧ body env1 k = some (.nx e, k') ∧ I us e k') :
    ∀ us env k, I us env k → ∃ env' k', forL g body us env k = some (.nx env', k') ∧ I [] env' k'
  | [], env, k, i => ⟨env, k, rfl, i⟩
  | u :: us, env, k, i => by
    obtain ⟨env1, e, k1, h1, h2, h3⟩ := h u us env k i
    obtain ⟨env', k', h4, h5⟩ := forL_ind I h us e k1 h3
    exact ⟨env', k', by simp only [forL, h1, Option.bind_some, h2, h4], h5⟩
theorem lcL_map {α : Type} {g : GM} {t : BM} {e : EM} {env : En} {k : Nat} (f h : α → U) : ∀ {xs : List α}, (∀ x ∈ xs, ∃ env1, g (f x) env = some env1 ∧ t env1 k = some (true, k) ∧ e env1 k = some (h x, k)) → lcL g t e env (xs.map f) k = some (xs.map h, k)
  | [], _ => rfl
  | x :: xs, q => by
    obtain ⟨env1, h1, h2, h3⟩ := q x List.mem_cons_self
    have ih := lcL_map f h (xs := xs) fun y hy => q y (List.mem_cons_of_mem _ hy)
    simp only [List.map_cons, lcL, h1, Option.bind_some, h2, h3, ih, if_true]
theorem lcL_filter {α : Type} {g : GM} {t : BM} {e : EM} {env : En} {k : Nat} (f h : α → U) (p : α → Bool) : ∀ {xs : List α}, (∀ x ∈ xs, ∃ env1, g (f x) env = some env1 ∧ t env1 k = some (p x, k) ∧ (p x = true → e env1 k = some (h x, k))) → lcL g t e env (xs.map f) k = some ((xs.filter p).map h, k)
  | [], _ => rfl
  | x :: xs, q => by
    obtain ⟨env1, h1, h2, h3⟩ := q x List.mem_cons_self
    have ih := lcL_filter f h p (xs := xs) fun y hy => q y (List.mem_cons_of_mem _ hy)
    rw [List.filter_cons]
    by_cases hp : p x = true
    · rw [if_pos hp]
      simp only [List.map_cons, lcL, h1, Option.bind_some, h2, hp, h3 hp, ih, if_true]
    · rw [if_neg hp]
      have hp' : p x = false := by simpa using hp
      simp only [List.map_cons, lcL, h1, Option.bind_some, h2, hp', ih, Bool.false_eq_true, if_false]
theorem genL_map {α : Type} {g : GM} {t : BM} {e : EM} {env : En} {k : Nat} (f h : α → U) : ∀ {xs : List α}, (∀ x ∈ xs, ∃ env1, g (f x) env = some env1 ∧ t env1 k = some (true, k) ∧ e env1 k = some (h x, k)) → genL g t e env k (xs.map f) = some (xs.map h)
  | [], _ => rfl
  | x :: xs, q => by
    obtain ⟨env1, h1, h2, h3⟩ := q x List.mem_cons_self
    have ih := genL_map f h (xs := xs) fun y hy => q y (List.mem_cons_of_mem _ hy)
    simp only [List.map_cons, genL, h1, Option.bind_some, h2, h3, ih, if_true]
theorem genL_filter {α : Type} {g : GM} {t : BM} {e : EM} {env : En} {k : Nat} (f h : α → U) (p : α → Bool) : ∀ {xs : List α}, (∀ x ∈ xs, ∃ env1, g (f x) env = some env1 ∧ t env1 k = some (p x, k) ∧ (p x = true → e env1 k = some (h x, k))) → genL g t e env k (xs.map f) = some ((xs.filter p).map h)
  | [], _ => rfl
  | x :: xs, q => by
    obtain ⟨env1, h1, h2, h3⟩ := q x List.mem_cons_self
    have ih := genL_filter f h p (xs := xs) fun y hy => q y (List.mem_cons_of_mem _ hy)
    rw [List.filter_cons]
    by_cases hp : p x = true
    · rw [if_pos hp]
      simp only [List.map_cons, genL, h1, Option.bind_some, h2, hp, h3 hp, ih, if_true]
    · rw [if_neg hp]
      have hp' : p x = false := by simpa using hp
      simp only [List.map_cons, genL, h1, Option.bind_some, h2, hp', ih, Bool.false_eq_true, if_false, if_true]
theorem atI_nat {α : Type} {xs : List α} {n : Nat} {x : α} (h : xs[n]? = some x) : atI xs (n : Int) = some x := by
  have hl : n < xs.length := (List.getElem?_eq_some_iff.mp h).1
  unfold atI ixN
  rw [if_pos (by omega), if_pos (by omega)]
  simpa using h
def St (φ : Str → Int) : U := .tup (encT (nf φ))
theorem St_ext {φ ψ : Str → Int} (h : ∀ c ∈ C8, φ c = ψ c) : St φ = St ψ := by unfold St; rw [nf_ext h]
theorem imms_encT : ∀ ts : List (Str × Int), imms (encT ts) = true
  | [] => rfl
  | p :: ts => by
    show (imm (.tup [.str p.1, .int p.2]) && imms (encT ts)) = true
    rw [imms_encT ts]; rfl
theorem dict_St (φ : Str → Int) : fDict [St φ] = some (.dct (emb (nf φ))) := dict_encT (nf_nodup φ)
theorem store_of_eq (ns : List Int) {d : List (Str × Int)} (hd : (keysD d).Nodup) (hs : ∀ c ∈ keysD d, c ∈ C8) (k : Nat) : mf_store_of ns [.dct (emb d)] k = some (St (co d), k) := by
  have h8 := keys_le hd hs
  have hsub : ∀ c ∈ sortS (keysD d), c ∈ keysD d := fun c hc => (sortS_perm _).mem_iff.mp hc
  have hl : (C8.filter fun c => co d c != 0).length ≤ 8 := List.length_filter_le _ _
  have h1 : lcL (gNm 2) (bVal (eBin fNe (eIdx ns (eVar 0) (eVar 2)) (eC (.int 0)))) (eVar 2) [some (.dct (emb d)), none, none] ((sortS (keysD d)).map U.str) k = some (((sortS (keysD d)).filter fun c => co d c != 0).map U.str, k) :=
    lcL_filter U.str U.str (fun c => co d c != 0) fun c hc => ⟨_, rfl, by
      simp only [bVal, eBin, eIdx, eVar, List.set_cons_succ, List.set_cons_zero, List.getElem?_cons_succ, List.getElem?_cons_zero, Option.bind_some, idx_emb (hsub c hc), eC, fNe_int]
      rfl, fun _ => rfl⟩
  rw [cells_eq hd hs] at h1
  have hsub2 : ∀ c ∈ C8.filter (fun c => co d c != 0), c ∈ keysD d := fun c hc => by
    rw [← cells_eq hd hs] at hc
    exact hsub c (List.mem_filter.mp hc).1
  have h2 : genL (gNm 2) bYes (eTup (aCons (eVar 2) (aCons (eIdx ns (eVar 0) (eVar 2)) aNil))) [some (.dct (emb d)), some (.lst ((C8.filter fun c => co d c != 0).map U.str)), none] k ((C8.filter fun c => co d c != 0).map U.str) = some ((C8.filter fun c => co d c != 0).map fun c => .tup [.str c, .int (co d c)]) :=
    genL_map U.str _ fun c hc => ⟨_, rfl, rfl, by
      simp only [eTup, aCons, aNil, eIdx, eVar, List.set_cons_succ, List.set_cons_zero, List.getElem?_cons_succ, List.getElem?_cons_zero, Option.bind_some, idx_emb (hsub2 c hc)]
      rfl⟩
  have s1 : sAsg 1 (eLc (aItems (eFn fSorted (aCons (eVar 0) aNil))) [2] (gNm 2) (bVal (eBin fNe (eIdx ns (eVar 0) (eVar 2)) (eC (.int 0)))) (eVar 2)) [some (.dct (emb d)), none, none] k = some (.nx [some (.dct (emb d)), some (.lst ((C8.filter fun c => co d c != 0).map U.str)), none], k) := by
    simp only [sAsg, eLc, aItems, eFn, aCons, aNil, eVar, List.getElem?_cons_succ, List.getElem?_cons_zero, Option.bind_some, sorted_emb h8, itemsU, wipeE, List.set_cons_succ, List.set_cons_zero, h1, List.length_map]
    rw [if_pos (by omega)]
    rfl
  refine runM_rt (k' := k) ?_
  show m_store_of ns [some (.dct (emb d)), none, none] k = _
  unfold m_store_of
  rw [sSeq_nx s1]
  simp only [sRet, eTupG, aItems, eVar, List.getElem?_cons_succ, List.getElem?_cons_zero, Option.bind_some, itemsU, wipeE, List.set_cons_succ, List.set_cons_zero, h2, List.length_map]
  rw [if_pos (by omega)]
  simp [St, encT, nf, Function.comp_def]
theorem worth_at_eq (ns : List Int) (φ : Str → Int) {c : Str} (hc : c ∈ C8) (k : Nat) : mf_worth_at ns [St φ, .str c] k = some (.int (φ c), k) := by
  refine runM_rt (k' := k) ?_
  show m_worth_at ns [some (St φ), some (.str c)] k = _
  unfold m_worth_at
  simp only [sRet, eGet, eFn, aCons, aNil, eVar, List.getElem?_cons_succ, List.getElem?_cons_zero, Option.bind_some, dict_St, eC, toKey, emb_getD, co_nf hc]
abbrev Part := Str × Int × (Str → Int)
def encP (p : Part) : U := .tup [.str p.1, E p.2.1 p.2.2]
structure Dd where
  nm : Str
  tk : Int
  ps : List Part
def encD (d : Dd) : U := .tup [.str d.nm, .int d.tk, .tup (d.ps.map encP)]
def encR (r : List Dd) : U := .tup (r.map encD)
def POk (p : Part) : Prop := p.1 ∈ C8 ∧ ∀ c ∈ C8, Sml (p.2.2 c)
def DOk (d : Dd) : Prop := ∀ p ∈ d.ps, POk p
def wv (p : Part) (φ : Str → Int) : Int := p.2.1 + sm fun c => p.2.2 c * φ c
def wdF (φ : Str → Int) (ps : List Part) (χ : Str → Int) : Str → Int := ps.foldl (fun χ p c => if c = p.1 then wv p φ else χ c) χ
def wd (ps : List Part) (φ : Str → Int) : Str → Int := wdF φ ps φ
theorem wdF_ext (φ : Str → Int) : ∀ (ps : List Part) {χ χ' : Str → Int} {c : Str}, χ c = χ' c → wdF φ ps χ c = wdF φ ps χ' c
  | [], _, _, _, h => h
  | p :: ps, χ, χ', c, h => by
    refine wdF_ext φ ps ?_
    dsimp only
    rw [h]
theorem wv_ext (p : Part) {φ ψ : Str → Int} (h : ∀ c ∈ C8, φ c = ψ c) : wv p φ = wv p ψ := by
  unfold wv
  rw [sm_ext fun c hc => by rw [h c hc]]
theorem wdF_ext2 {φ ψ : Str → Int} (h : ∀ c ∈ C8, φ c = ψ c) : ∀ (ps : List Part) (χ : Str → Int), wdF φ ps χ = wdF ψ ps χ
  | [], _ => rfl
  | p :: ps, χ => by
    show wdF φ ps (fun c => if c = p.1 then wv p φ else χ c) = wdF ψ ps (fun c => if c = p.1 then wv p ψ else χ c)
    rw [wv_ext p h]
    exact wdF_ext2 h ps _
theorem wd_ext {φ ψ : Str → Int} (ps : List Part) (h : ∀ c ∈ C8, φ c = ψ c) : ∀ c ∈ C8, wd ps φ c = wd ps ψ c := fun c hc => by
  unfold wd
  rw [wdF_ext2 h]
  exact wdF_ext _ ps (h c hc)
def putD (w : List (Str × Int)) (ps : List Part) (d : List (Str × Int)) : List (Str × Int) := ps.foldl (fun d p => sput d p.1 (wv p (co w))) d
theorem putD_ok (w : List (Str × Int)) : ∀ (ps : List Part) (d : List (Str × Int)), (∀ p ∈ ps, p.1 ∈ C8) → (keysD d).Nodup → (∀ c ∈ keysD d, c ∈ C8) → (keysD (putD w ps d)).Nodup ∧ ∀ c ∈ keysD (putD w ps d), c ∈ C8
  | [], d, _, h1, h2 => ⟨h1, h2⟩
  | p :: ps, d, h, h1, h2 => putD_ok w ps _ (fun q hq => h q (List.mem_cons_of_mem _ hq)) (sput_nodup h1) fun c hc => (sput_mem.mp hc).elim (h2 c) fun z => z ▸ h p List.mem_cons_self
theorem co_putD (w : List (Str × Int)) : ∀ (ps : List Part) (d : List (Str × Int)) (c : Str), co (putD w ps d) c = wdF (co w) ps (co d) c
  | [], d, c => rfl
  | p :: ps, d, c => by
    show co (putD w ps (sput d p.1 (wv p (co w)))) c = _
    rw [co_putD w ps]
    exact wdF_ext _ ps (co_put d p.1 _ c)
theorem loop_parts (ns : List Int) (u0 u1 : U) (w : List (Str × Int)) (k : Nat) : ∀ (ps : List Part) (d : List (Str × Int)) (x4 x5 : Option U), (∀ p ∈ ps, POk p) → (keysD d).Nodup → (∀ c ∈ keysD d, c ∈ C8) → ∃ y4 y5,
    forL (gTp 2 (gsCons (gNm 4) (gsCons (gNm 5) gsNil))) (sDput 3 (eVar 4) (eCallN 2 (mf_worth_of ns) (aCons (eVar 5) (aCons (eVar 2) aNil)))) (ps.map encP) [some u0, some u1, some (.dct (emb w)), some (.dct (emb d)), x4, x5] k
      = some (.nx [some u0, some u1, some (.dct (emb w)), some (.dct (emb (putD w ps d))), y4, y5], k)
  | [], d, x4, x5, _, _, _ => ⟨x4, x5, rfl⟩
  | p :: ps, d, x4, x5, h, h1, h2 => by
    have h8 := keys_le h1 h2
    have hp := h p List.mem_cons_self
    obtain ⟨y4, y5, ih⟩ := loop_parts ns u0 u1 w k ps (sput d p.1 (wv p (co w))) (some (.str p.1)) (some (E p.2.1 p.2.2)) (fun q hq => h q (List.mem_cons_of_mem _ hq)) (sput_nodup h1) fun c hc => (sput_mem.mp hc).elim (h2 c) fun z => z ▸ hp.1
    refine ⟨y4, y5, ?_⟩
    have hl : (emb d).length < 1000 := by simp only [emb, List.length_map]; omega
    have hw := worth_of_eq ns p.2.1 (φ := p.2.2) (w := w) (fun c hc => .inl (hp.2 c hc)) k
    show forL _ _ (.tup [.str p.1, E p.2.1 p.2.2] :: ps.map encP) _ k = _
    simp only [forL, gTp, itemsT, gsCons, gNm, gsNil, List.length_cons, List.length_nil, Option.bind_some, List.set_cons_succ, List.set_cons_zero, if_true, sDput, eCallN, aCons, aNil, eVar, List.getElem?_cons_succ, List.getElem?_cons_zero, hw, toKey, hl, emb_put]
    exact ih
theorem with_parts_eq (ns : List Int) (φ : Str → Int) {ps : List Part} (h : ∀ p ∈ ps, POk p) (k : Nat) : mf_with_parts ns [St φ, .tup (ps.map encP)] k = some (St (wd ps φ), k) := by
  obtain ⟨y4, y5, hl⟩ := loop_parts ns (St φ) (.tup (ps.map encP)) (nf φ) k ps (nf φ) none none h (nf_nodup φ) (nf_sub φ)
  obtain ⟨g1, g2⟩ := putD_ok (nf φ) ps (nf φ) (fun p hp => (h p hp).1) (nf_nodup φ) (nf_sub φ)
  have hs := store_of_eq ns g1 g2 k
  have e : St (co (putD (nf φ) ps (nf φ))) = St (wd ps φ) := St_ext fun c hc => by
    rw [co_putD]
    unfold wd
    rw [wdF_ext2 (fun c hc => co_nf hc)]
    exact wdF_ext _ ps (co_nf hc)
  rw [e] at hs
  refine runM_rt (k' := k) ?_
  show m_with_parts ns [some (St φ), some (.tup (ps.map encP)), none, none, none, none] k = _
  unfold m_with_parts
  have s1 : sAsg 2 (eFn fDict (aCons (eVar 0) aNil)) [some (St φ), some (.tup (ps.map encP)), none, none, none, none] k = some (.nx [some (St φ), some (.tup (ps.map encP)), some (.dct (emb (nf φ))), none, none, none], k) := by
    simp only [sAsg, eFn, aCons, aNil, eVar, List.getElem?_cons_zero, Option.bind_some, dict_St, List.set_cons_succ, List.set_cons_zero]
  have s2 : sAsg 3 (eFn fDict (aCons (eVar 0) aNil)) [some (St φ), some (.tup (ps.map encP)), some (.dct (emb (nf φ))), none, none, none] k = some (.nx [some (St φ), some (.tup (ps.map encP)), some (.dct (emb (nf φ))), some (.dct (emb (nf φ))), none, none], k) := by
    simp only [sAsg, eFn, aCons, aNil, eVar, List.getElem?_cons_zero, Option.bind_some, dict_St, List.set_cons_succ, List.set_cons_zero]
  rw [sSeq_nx s1, sSeq_nx s2]
  refine (sSeq_nx (a := sFor _ _ _) (k' := k) (env' := [some (St φ), some (.tup (ps.map encP)), some (.dct (emb (nf φ))), some (.dct (emb (putD (nf φ) ps (nf φ)))), y4, y5]) ?_).trans ?_
  · simp only [sFor, aItems, eVar, List.getElem?_cons_succ, List.getElem?_cons_zero, Option.bind_some, itemsU]
    exact hl
  · simp only [sRet, eCallN, aCons, aNil, eVar, List.getElem?_cons_succ, List.getElem?_cons_zero, Option.bind_some, List.length_cons, List.length_nil, if_true, hs]
def dn (d : Dd) (φ : Str → Int) : Str → Int := wd d.ps φ
theorem done_eq (ns : List Int) (φ : Str → Int) {d : Dd} (h : DOk d) (k : Nat) : mf_done ns [St φ, encD d] k = some (St (dn d φ), k) := by
  have hw := with_parts_eq ns φ h k
  refine runM_rt (k' := k) ?_
  show m_done ns [some (St φ), some (encD d), none, none, none] k = _
  unfold m_done
  have s1 : sAsgG (gTp 3 (gsCons (gNm 2) (gsCons (gNm 3) (gsCons (gNm 4) gsNil)))) (eVar 1) [some (St φ), some (encD d), none, none, none] k = some (.nx [some (St φ), some (encD d), some (.str d.nm), some (.int d.tk), some (.tup (d.ps.map encP))], k) := by
    simp [sAsgG, eVar, encD, gTp, itemsT, gsCons, gNm, gsNil]
  rw [sSeq_nx s1]
  simp only [sRet, eCallN, aCons, aNil, eVar, List.getElem?_cons_succ, List.getElem?_cons_zero, Option.bind_some, List.length_cons, List.length_nil, if_true, hw]
  rfl
def rn : List Dd → (Str → Int) → (Str → Int)
  | [], φ => φ
  | d :: r, φ => rn r (dn d φ)
theorem loop_run (ns : List Int) (u1 : U) (k : Nat) : ∀ (r : List Dd) (φ : Str → Int) (x2 : Option U), (∀ d ∈ r, DOk d) → ∃ y2,
    forL (gNm 2) (sAsg 0 (eCallN 2 (mf_done ns) (aCons (eVar 0) (aCons (eVar 2) aNil)))) (r.map encD) [some (St φ), some u1, x2] k = some (.nx [some (St (rn r φ)), some u1, y2], k)
  | [], φ, x2, _ => ⟨x2, rfl⟩
  | d :: r, φ, x2, h => by
    obtain ⟨y2, ih⟩ := loop_run ns u1 k r (dn d φ) (some (encD d)) fun x hx => h x (List.mem_cons_of_mem _ hx)
    refine ⟨y2, ?_⟩
    have hd := done_eq ns φ (h d List.mem_cons_self) k
    simp only [List.map_cons, forL, gNm, List.set_cons_succ, List.set_cons_zero, Option.bind_some, sAsg, eCallN, aCons, aNil, eVar, List.getElem?_cons_succ, List.getElem?_cons_zero, List.length_cons, List.length_nil, if_true, hd]
    exact ih
theorem run_eq (ns : List Int) (φ : Str → Int) {r : List Dd} (h : ∀ d ∈ r, DOk d) (k : Nat) : mf_run ns [St φ, encR r] k = some (St (rn r φ), k) := by
  obtain ⟨y2, hl⟩ := loop_run ns (encR r) k r φ none h
  refine runM_rt (k' := k) ?_
  show m_run ns [some (St φ), some (encR r), none] k = _
  unfold m_run
  refine (sSeq_nx (a := sFor _ _ _) (k' := k) (env' := [some (St (rn r φ)), some (encR r), y2]) ?_).trans ?_
  · simp only [sFor, aItems, eVar, List.getElem?_cons_succ, List.getElem?_cons_zero, Option.bind_some, encR, itemsU]
    exact hl
  · rfl
def tr : List Dd → (Str → Int) → List (Str → Int)
  | [], φ => [φ]
  | d :: r, φ => φ :: tr r (dn d φ)
end Cm
set_option linter.all false
set_option Elab.async false
set_option maxRecDepth 100000
set_option maxHeartbeats 1000000
namespace Cm
open PySem L2 UM
end Cm
set_option linter.all false
set_option Elab.async false
set_option maxRecDepth 100000
set_option maxHeartbeats 1000000
namespace Cm
open PySem L2 UM
structure Tx (z : Str) (cs : List Str) : Prop where
  it : (z.cps.toList.map fun c => U.str ⟨#[c]⟩) = cs.map U.str
  sub : cs.Sublist C8
  ne : cs ≠ []
theorem tx8 : Tx "abcdefgh" C8 := ⟨rfl, List.Sublist.refl _, by simp⟩
theorem tx2 : Tx "ab" ["a", "b"] := ⟨rfl, by decide +kernel, by simp⟩
theorem tx4 : Tx "cdef" ["c", "d", "e", "f"] := ⟨rfl, by decide +kernel, by simp⟩
theorem Tx.len {z : Str} {cs : List Str} (h : Tx z cs) : z.length = cs.length := by
  have := congrArg List.length h.it
  simpa [Str.length] using this
theorem Tx.le {z : Str} {cs : List Str} (h : Tx z cs) : cs.length ≤ 8 := h.sub.length_le
def FOk (a : Int) (φ : Str → Int) : Prop := -99 ≤ a ∧ a ≤ 99 ∧ ∀ c ∈ C8, -9 ≤ φ c ∧ φ c ≤ 9
theorem FOk.sml {a : Int} {φ : Str → Int} (h : FOk a φ) : ∀ c ∈ C8, Sml (φ c) := fun c hc => by
  have := h.2.2 c hc
  exact ⟨by omega, by omega⟩
def bodyF (ns : List Int) : SM := (sIf (bVal (eBin fEq (eCallN 3 (mf__law_draw ns) (aCons (eVar 0) (aCons (eVar 1) (aCons (eVar 4) aNil)))) (eC (.int 0)))) (sSeq (sAsg 6 (eCallN 3 (mf__law_pick ns) (aCons (eVar 0) (aCons (eVar 1) (aCons (eLst (aCons (eC (.int 1)) (aCons (eC (.int 1)) (aCons (eUn fNeg (eC (.int 1))) (aCons (eC (.int 9)) (aCons (eUn fNeg (eC (.int 9))) (aCons (eBin fAdd (eC (.int 1)) (eCallN 3 (mf__law_draw ns) (aCons (eVar 0) (aCons (eVar 1) (aCons (eC (.int 8)) aNil))))) aNil))))))) aNil))))) (sAsg 3 (eBin fAdd (eVar 3) (eTup (aCons (eTup (aCons (eVar 5) (aCons (eVar 6) aNil))) aNil))))) sSkip)
theorem turnF (ns : List Int) {th : Int} (hth : 0 < th) (u2 : U) (ts : List (Str × Int)) (hts : ts.length < 900) (c : Str) (x6 : Option U) {k : Nat} (hk : k + 3 < 16000000) : ∃ ts' y6 k',
    bodyF ns [some .scr, some .town, some u2, some (.tup (encT ts)), some (.int th), some (.str c), x6] k = some (.nx [some .scr, some .town, some u2, some (.tup (encT (ts ++ ts'))), some (.int th), some (.str c), y6], k') ∧
    k ≤ k' ∧ k' ≤ k + 3 ∧ (ts' = [] ∨ ∃ m, ts' = [(c, m)] ∧ m ≠ 0 ∧ -9 ≤ m ∧ m ≤ 9) := by
  obtain ⟨v, e, _, _⟩ := draw_eq ns hth (k := k) (by omega)
  by_cases hv : v = 0
  · subst hv
    obtain ⟨w, e1, w0, w1⟩ := draw_eq ns (m := 8) (k := k + 1) (by decide) (by omega)
    obtain ⟨u, hu, e2⟩ := pick_eq ns (us := [.int 1, .int 1, .int (-1), .int 9, .int (-9), .int (1 + w)]) (k := k + 1 + 1) (by simp) (by omega)
    obtain ⟨m, rfl, hm0, hm1, hm2⟩ : ∃ m, u = .int m ∧ m ≠ 0 ∧ -9 ≤ m ∧ m ≤ 9 := by
      simp only [List.mem_cons, List.not_mem_nil, or_false] at hu
      rcases hu with rfl | rfl | rfl | rfl | rfl | rfl
      · exact ⟨1, rfl, by decide, by decide, by decide⟩
      · exact ⟨1, rfl, by decide, by decide, by decide⟩
      · exact ⟨-1, rfl, by decide, by decide, by decide⟩
      · exact ⟨9, rfl, by decide, by decide, by decide⟩
      · exact ⟨-9, rfl, by decide, by decide, by decide⟩
      · exact ⟨1 + w, rfl, by omega, by omega, by omega⟩
    refine ⟨[(c, m)], some (.int m), k + 3, ?_, by omega, by omega, .inr ⟨m, rfl, hm0, hm1, hm2⟩⟩
    have hlen : (encT ts).length + 1 ≤ 1000 := by simp only [encT, List.length_map]; omega
    simp [bodyF, sIf, bVal, eBin, eCallN, aCons, aNil, eVar, e, eC, fEq_int, sSeq, sAsg, eLst, eUn, fNeg, e1, fAdd, e2, eTup, hlen]
    simp [encT]
  · refine ⟨[], x6, k + 1, ?_, by omega, by omega, .inl rfl⟩
    simp [bodyF, sIf, bVal, eBin, eCallN, aCons, aNil, eVar, e, eC, fEq_int, hv, sSkip]
theorem loopF (ns : List Int) {th : Int} (hth : 0 < th) (u2 : U) : ∀ (cs : List Str) (ts : List (Str × Int)) (x5 x6 : Option U) (k : Nat), ts.length + cs.length < 900 → k + 3 * cs.length < 16000000 → ∃ ts' y5 y6 k',
    forL (gNm 5) (bodyF ns) (cs.map U.str) [some .scr, some .town, some u2, some (.tup (encT ts)), some (.int th), x5, x6] k = some (.nx [some .scr, some .town, some u2, some (.tup (encT (ts ++ ts'))), some (.int th), y5, y6], k') ∧
    k ≤ k' ∧ k' ≤ k + 3 * cs.length ∧ (keysD ts').Sublist cs ∧ (∀ p ∈ ts', p.2 ≠ 0 ∧ -9 ≤ p.2 ∧ p.2 ≤ 9)
  | [], ts, x5, x6, k, _, _ => ⟨[], x5, x6, k, by simp [forL], by omega, by simp, by simp [keysD], by simp⟩
  | c :: cs, ts, x5, x6, k, h1, h2 => by
    simp only [List.length_cons] at h1 h2
    obtain ⟨t1, y6, k1, e1, g1, g2, g3⟩ := turnF ns hth u2 ts (by omega) c x6 (k := k) (by omega)
    have hl1 : t1.length ≤ 1 := by
      rcases g3 with rfl | ⟨m, rfl, _⟩ <;> simp
    obtain ⟨t2, z5, z6, k2, e2, i1, i2, i3, i4⟩ := loopF ns hth u2 cs (ts ++ t1) (some (.str c)) y6 k1 (by rw [List.length_append]; omega) (by omega)
    refine ⟨t1 ++ t2, z5, z6, k2, ?_, by omega, by simp only [List.length_cons]; omega, ?_, ?_⟩
    · rw [← List.append_assoc, ← e2]
      simp only [List.map_cons, forL, gNm, List.set_cons_succ, List.set_cons_zero, Option.bind_some, e1]
    · rcases g3 with rfl | ⟨m, rfl, _⟩
      · exact i3.cons c
      · exact i3.cons_cons c
    · intro p hp
      rcases List.mem_append.mp hp with hp | hp
      · rcases g3 with rfl | ⟨m, rfl, q⟩
        · cases hp
        · rw [List.mem_singleton.mp hp]; exact q
      · exact i4 p hp
theorem form_eq (ns : List Int) {z : Str} {cs : List Str} (hz : Tx z cs) {k : Nat} (hk : k < 15000000) : ∃ a φ k', mf__law_form ns [.scr, .town, .str z] k = some (E a φ, k') ∧ k ≤ k' ∧ k' ≤ k + 40 ∧ FOk a φ ∧ ∀ c, φ c ≠ 0 → c ∈ cs := by
  have hle := hz.le
  obtain ⟨u, hu, e1⟩ := pick_eq ns (us := [.int 2, .int 6, .int 12, .int 30]) (k := k) (by simp) (by omega)
  obtain ⟨th, rfl, hth⟩ : ∃ th, u = .int th ∧ 0 < th := by
    simp only [List.mem_cons, List.not_mem_nil, or_false] at hu
    rcases hu with rfl | rfl | rfl | rfl <;> exact ⟨_, rfl, by decide⟩
  have s1 : sPar 3 4 (aCons (eTup aNil) (aCons (eCallN 3 (mf__law_pick ns) (aCons (eVar 0) (aCons (eVar 1) (aCons (eLst (aCons (eC (.int 2)) (aCons (eC (.int 6)) (aCons (eC (.int 12)) (aCons (eC (.int 30)) aNil))))) aNil)))) aNil)) [some .scr, some .town, some (.str z), none, none, none, none] k = some (.nx [some .scr, some .town, some (.str z), some (.tup (encT [])), some (.int th), none, none], k + 1) := by
    simp [sPar, aCons, aNil, eTup, eCallN, eVar, eLst, eC, e1, encT]
  obtain ⟨ts, y5, y6, k2, e2, g1, g2, g3, g4⟩ := loopF ns hth (.str z) cs [] none none (k + 1) (by simp; omega) (by omega)
  rw [List.nil_append] at e2
  have s2 : sFor (aItems (eVar 2)) (gNm 5) (bodyF ns) [some .scr, some .town, some (.str z), some (.tup (encT [])), some (.int th), none, none] (k + 1) = some (.nx [some .scr, some .town, some (.str z), some (.tup (encT ts)), some (.int th), y5, y6], k2) := by
    simp only [sFor, aItems, eVar, List.getElem?_cons_succ, List.getElem?_cons_zero, Option.bind_some, itemsU]
    rw [hz.it]
    exact e2
  obtain ⟨w, e3, w0, w1⟩ := draw_eq ns (m := 199) (k := k2) (by decide) (by omega)
  obtain ⟨u, hu, e4⟩ := pick_eq ns (us := [.int 0, .int 0, .int 1, .int 99, .int (-99), .int (w - 99)]) (k := k2 + 1) (by simp) (by omega)
  obtain ⟨a, rfl, ha0, ha1⟩ : ∃ a, u = .int a ∧ -99 ≤ a ∧ a ≤ 99 := by
    simp only [List.mem_cons, List.not_mem_nil, or_false] at hu
    rcases hu with rfl | rfl | rfl | rfl | rfl | rfl <;> exact ⟨_, rfl, by omega, by omega⟩
  have hin : ∀ c, co ts c ≠ 0 → c ∈ keysD ts := fun c h => by
    by_cases q : c ∈ keysD ts
    · exact q
    · exact absurd (co_out q) h
  refine ⟨a, co ts, k2 + 2, runM_rt (k' := k2 + 2) ?_, by omega, by omega, ⟨ha0, ha1, fun c _ => ?_⟩, fun c h => g3.subset (hin c h)⟩
  · show m__law_form ns [some .scr, some .town, some (.str z), none, none, none, none] k = _
    unfold m__law_form
    rw [sSeq_nx s1]
    refine (sSeq_nx s2).trans ?_
    have hE : E a (co ts) = .tup [.int a, .tup (encT ts)] := by unfold E; rw [nf_of (g3.trans hz.sub) fun p hp => (g4 p hp).1]
    rw [hE]
    simp [sRet, eTup, aCons, aNil, eCallN, eVar, eLst, eC, eUn, fNeg, eBin, fSub, e3, e4]
  · by_cases h : c ∈ keysD ts
    · unfold co
      cases e : ts.find? fun p => decide (p.1 = c) with
      | none => decide
      | some p =>
        have hp := List.mem_of_find?_eq_some e
        exact (g4 p hp).2
    · rw [co_out h]; decide
theorem pickS_eq (ns : List Int) {z : Str} {cs : List Str} (hz : Tx z cs) {k : Nat} (hk : k < 16000000) : ∃ c ∈ cs, mf__law_pick ns [.scr, .town, .str z] k = some (.str c, k + 1) := by
  have hl : 0 < cs.length := List.length_pos_iff.mpr hz.ne
  have hle := hz.le
  obtain ⟨v, e, h0, h1⟩ := draw_eq ns (m := cs.length) (k := k) (by omega) hk
  have hv : v.toNat < cs.length := by omega
  have hzl := hz.len
  have hc : (z.cps.toList.map fun c => U.str ⟨#[c]⟩)[v.toNat]? = some (.str cs[v.toNat]) := by rw [hz.it]; simp
  rw [List.getElem?_map] at hc
  obtain ⟨n, e1, e2⟩ := Option.map_eq_some_iff.mp hc
  refine ⟨cs[v.toNat], List.getElem_mem hv, runM_rt (k' := k + 1) ?_⟩
  show m__law_pick ns [some .scr, some .town, some (.str z)] k = _
  unfold m__law_pick
  have e3 : eLen ns (eVar 2) [some .scr, some .town, some (.str z)] k = some (.int cs.length, k) := by
    simp only [eLen, eVar, List.getElem?_cons_succ, List.getElem?_cons_zero, Option.bind_some, fLen, hzl]
    rw [if_pos (by omega)]
    rfl
  have e4 : atI z.cps.toList v = some n := by
    unfold atI ixN
    rw [if_pos h0, if_pos (by simp only [Array.length_toList]; have : z.cps.size = cs.length := hzl; omega)]
    exact e1
  have e5 : fIdx (.str z) (.int v) = some (.str cs[v.toNat]) := by
    simp only [fIdx, e4, Option.map_some, e2]
    rw [if_pos (by omega)]
  have e6 : eCallN 3 (mf__law_draw ns) (aCons (eVar 0) (aCons (eVar 1) (aCons (eLen ns (eVar 2)) aNil))) [some .scr, some .town, some (.str z)] k = some (.int v, k + 1) := by
    simp only [eCallN, aCons, aNil, e3, Option.bind_some]
    simp only [eVar, List.getElem?_cons_succ, List.getElem?_cons_zero, Option.bind_some, e3, List.length_cons, List.length_nil, if_true, e]
  have e7 : eVar 2 [some .scr, some .town, some (.str z)] k = some (.str z, k) := rfl
  simp only [sRet, eIdx, e7, Option.bind_some, e6, e5]
theorem perm_out {α : Type} : ∀ {xs : List α} {n : Nat} {x : α}, xs[n]? = some x → (x :: xs.eraseIdx n).Perm xs
  | [], _, _, h => by simp at h
  | y :: xs, 0, x, h => by
    simp at h; subst h
    exact List.Perm.refl _
  | y :: xs, n + 1, x, h => by
    have ih := perm_out (xs := xs) (n := n) (x := x) (by simpa using h)
    show (x :: y :: xs.eraseIdx n).Perm (y :: xs)
    exact (List.Perm.swap y x _).trans (ih.cons y)
def bodyM (ns : List Int) : SM := (sAppPop 4 3 (eImm (eCallN 3 (mf__law_draw ns) (aCons (eVar 0) (aCons (eVar 1) (aCons (eLen ns (eVar 3)) aNil))))))
theorem loopM (ns : List Int) (u2 : U) : ∀ (n : Nat) (us acc : List U) (f k : Nat), us.length = n → n < f → acc.length + n ≤ 900 → k + n < 16000000 → ∃ ws : List U, ws.Perm us ∧
    whL (bTru ns (eVar 3)) (bodyM ns) f [some .scr, some .town, some u2, some (.lst us), some (.lst acc)] k = some (.nx [some .scr, some .town, some u2, some (.lst []), some (.lst (acc ++ ws))], k + n)
  | 0, us, acc, f + 1, k, h, _, _, _ => by
    have : us = [] := List.length_eq_zero_iff.mp h
    subst this
    exact ⟨[], List.Perm.refl _, by simp [whL, bTru, eVar, truU]⟩
  | n + 1, us, acc, f + 1, k, h, hf, ha, hk => by
    obtain ⟨v, e, h0, h1⟩ := draw_eq ns (m := us.length) (k := k) (by omega) (by omega)
    have hv : v.toNat < us.length := by omega
    obtain ⟨ws, hp, hw⟩ := loopM ns u2 n (us.eraseIdx v.toNat) (acc ++ [us[v.toNat]]) f (k + 1) (by rw [List.length_eraseIdx_of_lt hv]; omega) (by omega) (by rw [List.length_append]; simp only [List.length_cons, List.length_nil]; omega) (by omega)
    have hg : us[v.toNat]? = some us[v.toNat] := List.getElem?_eq_getElem hv
    refine ⟨us[v.toNat] :: ws, (hp.cons _).trans (perm_out hg), ?_⟩
    have e1 : bTru ns (eVar 3) [some .scr, some .town, some u2, some (.lst us), some (.lst acc)] k = some (true, k) := by
      have : us.isEmpty = false := by cases us with | nil => simp at h | cons _ _ => rfl
      simp [bTru, eVar, truU, this]
    have e2 : eLen ns (eVar 3) [some .scr, some .town, some u2, some (.lst us), some (.lst acc)] k = some (.int us.length, k) := by simp [eLen, eVar, fLen]
    have e3 : bodyM ns [some .scr, some .town, some u2, some (.lst us), some (.lst acc)] k = some (.nx [some .scr, some .town, some u2, some (.lst (us.eraseIdx v.toNat)), some (.lst (acc ++ [us[v.toNat]]))], k + 1) := by
      have e4 : eImm (eCallN 3 (mf__law_draw ns) (aCons (eVar 0) (aCons (eVar 1) (aCons (eLen ns (eVar 3)) aNil)))) [some .scr, some .town, some u2, some (.lst us), some (.lst acc)] k = some (.int v, k + 1) := by
        simp only [eImm, eCallN, aCons, aNil, e2, Option.bind_some]
        simp only [eVar, List.getElem?_cons_succ, List.getElem?_cons_zero, Option.bind_some, e2, List.length_cons, List.length_nil, if_true, e, imm]
      simp only [bodyM, sAppPop, e4, Option.bind_some, List.getElem?_cons_succ, List.getElem?_cons_zero]
      rw [if_pos ⟨h0, h1, by omega, by omega⟩]
      simp only [hg, Option.bind_some, List.set_cons_succ, List.set_cons_zero]
    simp only [whL, e1, Option.bind_some, if_true, e3]
    rw [show k + (n + 1) = k + 1 + n by omega]
    simpa using hw
theorem mixed_eq (ns : List Int) {x : U} {us : List U} (hx : fList [x] = some (.lst us)) (hl : us.length ≤ 500) {k : Nat} (hk : k + 500 < 16000000) : ∃ ws : List U, ws.Perm us ∧ mf__law_mixed ns [.scr, .town, x] k = some (.lst ws, k + us.length) := by
  obtain ⟨ws, hp, hw⟩ := loopM ns x us.length us [] 100000 k rfl (by omega) (by simp; omega) (by omega)
  refine ⟨ws, hp, runM_rt (k' := k + us.length) ?_⟩
  show m__law_mixed ns [some .scr, some .town, some x, none, none] k = _
  unfold m__law_mixed
  have s1 : sPar 3 4 (aCons (eFn fList (aCons (eVar 2) aNil)) (aCons (eLst aNil) aNil)) [some .scr, some .town, some x, none, none] k = some (.nx [some .scr, some .town, some x, some (.lst us), some (.lst [])], k) := by
    simp [sPar, aCons, aNil, eFn, eVar, hx, eLst]
  rw [sSeq_nx s1]
  exact (sSeq_nx hw).trans rfl
def bodyS (ns : List Int) : SM := (sSeq (sAsg 4 (eCallN 3 (mf__law_pick ns) (aCons (eVar 0) (aCons (eVar 1) (aCons (eLst (aCons (eC (.int 0)) (aCons (eC (.int 0)) (aCons (eC (.int 1)) (aCons (eUn fNeg (eC (.int 1))) (aCons (eC (.int 5)) (aCons (eC (.int 1000)) (aCons (eUn fNeg (eC (.int 77))) aNil)))))))) aNil))))) (sAsg 2 (eBin fAdd (eVar 2) (eIf (bVal (eBin fNe (eVar 4) (eC (.int 0)))) (eTup (aCons (eTup (aCons (eVar 3) (aCons (eVar 4) aNil))) aNil)) (eTup aNil)))))
theorem loopS (ns : List Int) : ∀ (cs : List Str) (ts : List (Str × Int)) (x3 x4 : Option U) (k : Nat), ts.length + cs.length < 900 → k + cs.length < 16000000 → ∃ ts' y3 y4,
    forL (gNm 3) (bodyS ns) (cs.map U.str) [some .scr, some .town, some (.tup (encT ts)), x3, x4] k = some (.nx [some .scr, some .town, some (.tup (encT (ts ++ ts'))), y3, y4], k + cs.length) ∧ (keysD ts').Sublist cs ∧ ∀ p ∈ ts', p.2 ≠ 0
  | [], ts, x3, x4, k, _, _ => ⟨[], x3, x4, by simp [forL], by simp [keysD], by simp⟩
  | c :: cs, ts, x3, x4, k, h1, h2 => by
    simp only [List.length_cons] at h1 h2
    obtain ⟨u, hu, e⟩ := pick_eq ns (us := [.int 0, .int 0, .int 1, .int (-1), .int 5, .int 1000, .int (-77)]) (k := k) (by simp) (by omega)
    obtain ⟨v, rfl⟩ : ∃ v, u = .int v := by
      simp only [List.mem_cons, List.not_mem_nil, or_false] at hu
      rcases hu with rfl | rfl | rfl | rfl | rfl | rfl | rfl <;> exact ⟨_, rfl⟩
    have hlen : (encT ts).length + 1 ≤ 1000 := by simp only [encT, List.length_map]; omega
    have hlen0 : (encT ts).length ≤ 1000 := by omega
    by_cases hv : v = 0
    · obtain ⟨t2, y3, y4, ih, g1, g2⟩ := loopS ns cs ts (some (.str c)) (some (.int v)) (k + 1) (by omega) (by omega)
      refine ⟨t2, y3, y4, ?_, g1.cons c, g2⟩
      have eb : bodyS ns [some .scr, some .town, some (.tup (encT ts)), some (.str c), x4] k = some (.nx [some .scr, some .town, some (.tup (encT ts)), some (.str c), some (.int v)], k + 1) := by
        simp [bodyS, sSeq, sAsg, eCallN, aCons, aNil, eVar, eLst, eC, eUn, fNeg, e, eBin, eIf, bVal, fNe_int, hv, eTup, fAdd, hlen0]
      simp only [List.map_cons, forL, gNm, List.set_cons_succ, List.set_cons_zero, Option.bind_some, eb]
      rw [ih, List.length_cons, show k + 1 + cs.length = k + (cs.length + 1) by omega]
    · obtain ⟨t2, y3, y4, ih, g1, g2⟩ := loopS ns cs (ts ++ [(c, v)]) (some (.str c)) (some (.int v)) (k + 1) (by rw [List.length_append]; simp only [List.length_cons, List.length_nil]; omega) (by omega)
      refine ⟨(c, v) :: t2, y3, y4, ?_, g1.cons_cons c, fun p hp => ?_⟩
      · have eb : bodyS ns [some .scr, some .town, some (.tup (encT ts)), some (.str c), x4] k = some (.nx [some .scr, some .town, some (.tup (encT (ts ++ [(c, v)]))), some (.str c), some (.int v)], k + 1) := by
          simp [bodyS, sSeq, sAsg, eCallN, aCons, aNil, eVar, eLst, eC, eUn, fNeg, e, eBin, eIf, bVal, fNe_int, hv, eTup, fAdd, hlen]
          simp [encT]
        simp only [List.map_cons, forL, gNm, List.set_cons_succ, List.set_cons_zero, Option.bind_some, eb]
        rw [ih, List.length_cons, show k + 1 + cs.length = k + (cs.length + 1) by omega]
        simp
      · rcases List.mem_cons.mp hp with rfl | hp
        · exact hv
        · exact g2 p hp
theorem store_eq (ns : List Int) {k : Nat} (hk : k + 8 < 16000000) : ∃ φ, mf__law_store ns [.scr, .town] k = some (St φ, k + 8) := by
  obtain ⟨ts, y3, y4, e, g1, g2⟩ := loopS ns C8 [] none none k (by simp) (by simpa using hk)
  rw [List.nil_append] at e
  refine ⟨co ts, runM_rt (k' := k + 8) ?_⟩
  show m__law_store ns [some .scr, some .town, none, none, none] k = _
  unfold m__law_store
  have s1 : sAsg 2 (eTup aNil) [some .scr, some .town, none, none, none] k = some (.nx [some .scr, some .town, some (.tup (encT [])), none, none], k) := by
    simp [sAsg, eTup, aNil, encT]
  rw [sSeq_nx s1]
  have s2 : sFor (aItems (eC (.str "abcdefgh"))) (gNm 3) (bodyS ns) [some .scr, some .town, some (.tup (encT [])), none, none] k = some (.nx [some .scr, some .town, some (.tup (encT ts)), y3, y4], k + 8) := by
    simp only [sFor, aItems, eC, Option.bind_some, itemsU]
    rw [str8]
    exact e
  refine (sSeq_nx s2).trans ?_
  unfold St
  rw [nf_of g1 g2]
  rfl
end Cm
set_option linter.all false
set_option Elab.async false
set_option maxRecDepth 100000
set_option maxHeartbeats 1000000
namespace Cm
open PySem L2 UM
theorem rng_b (w : Nat) (hw : w < 1000) : -(2 ^ 62) ≤ (w : Int) ∧ (w : Int) < 2 ^ 62 := by omega
theorem rng_int {e : EM} {env : En} {k k' : Nat} {w : Int} (h : e env k = some (.int w, k')) (hw : -(2 ^ 62) ≤ w ∧ w < 2 ^ 62) : aRng1 e env k = some ((List.range w.toNat).map fun (i : Nat) => U.int i, k') := by
  simp only [aRng1, h, Option.bind_some]
  rw [if_pos hw]
theorem rng_nat {e : EM} {env : En} {k k' : Nat} {w : Nat} (h : e env k = some (.int w, k')) (hw : w < 1000) : aRng1 e env k = some ((List.range w).map fun (i : Nat) => U.int i, k') := by
  have := rng_int h (rng_b w hw)
  rw [Int.toNat_natCast] at this
  exact this
theorem dict_pairs {ts dd : List (Str × Int)} (hdd : ts.foldl (fun a p => sput a p.1 p.2) [] = dd) : fDict [.lst (encT ts)] = some (.dct (emb dd)) := by
  have := merge_emb ts []
  rw [show emb [] = [] from rfl] at this
  simp only [fDict, pairs_encT, Option.map_some]
  rw [this, hdd]
theorem lc_run {src : AM} {vs : List Nat} {g : GM} {t : BM} {e : EM} {env : En} {k k1 k2 : Nat} {us r : List U} (h1 : src env k = some (us, k1)) (h2 : lcL g t e (wipeE env vs) us k1 = some (r, k2)) (hl : r.length ≤ 1000) : eLc src vs g t e env k = some (.lst r, k2) := by
  unfold eLc
  rw [h1]
  simp only [Option.bind_some, h2]
  rw [if_pos hl]
theorem fn_run1 {f : List U → Option U} {a : EM} {env : En} {k k1 : Nat} {u v : U} (h1 : a env k = some (u, k1)) (h2 : f [u] = some v) : eFn f (aCons a aNil) env k = some (v, k1) := by
  unfold eFn aCons
  rw [h1]
  simp only [Option.bind_some, aNil, h2]
theorem asg_run {i : Nat} {a : EM} {env : En} {k k1 : Nat} {u : U} (h1 : a env k = some (u, k1)) : sAsg i a env k = some (.nx (env.set i (some u)), k1) := by
  unfold sAsg
  rw [h1]
  rfl
abbrev NM : List Str := ["a", "b", "bb", "c", "ft", "hed", "j", "mlsp", "q", "uvwy", "x", "zzzz"]
theorem nm_nodup : NM.Nodup := by decide +kernel
structure DGood (d : Dd) : Prop where
  nm : d.nm ∈ NM
  t0 : 1 ≤ d.tk
  t1 : d.tk ≤ 9
  sub : (d.ps.map (·.1)).Sublist C8
  ne : d.ps ≠ []
  le : d.ps.length ≤ 4
  fok : ∀ p ∈ d.ps, FOk p.2.1 p.2.2
theorem DGood.ok {d : Dd} (h : DGood d) : DOk d := fun p hp => ⟨h.sub.subset (List.mem_map_of_mem hp), (h.fok p hp).sml⟩
structure RGood (r : List Dd) (most : Nat) : Prop where
  le : r.length ≤ most
  g : ∀ d ∈ r, DGood d
  nd : (r.map (·.nm)).Nodup
theorem RGood.ok {r : List Dd} {m : Nat} (h : RGood r m) : ∀ d ∈ r, DOk d := fun d hd => (h.g d hd).ok
theorem lcC (ns : List Int) {z : Str} {cs : List Str} (hz : Tx z cs) (env : En) (h0 : env[0]? = some (some .scr)) (h1 : env[1]? = some (some .town)) (h3 : env[3]? = some (some (.str z))) : ∀ (is : List Nat) (k : Nat), k + is.length < 16000000 → ∃ ts : List (Str × Int),
    lcL (gNm 9) bYes (eTup (aCons (eCallN 3 (mf__law_pick ns) (aCons (eVar 0) (aCons (eVar 1) (aCons (eVar 3) aNil)))) (aCons (eC (.int 0)) aNil))) env (is.map fun (i : Nat) => U.int i) k = some (encT ts, k + is.length) ∧ ts.length = is.length ∧ ∀ c ∈ keysD ts, c ∈ cs
  | [], k, _ => ⟨[], rfl, rfl, by simp [keysD]⟩
  | i :: is, k, h => by
    simp only [List.length_cons] at h
    obtain ⟨c, hc, e⟩ := pickS_eq ns hz (k := k) (by omega)
    obtain ⟨ts, ih, hl, hs⟩ := lcC ns hz env h0 h1 h3 is (k + 1) (by omega)
    refine ⟨(c, 0) :: ts, ?_, by simp [hl], fun x hx => ?_⟩
    · have g0 : (env.set 9 (some (.int i)))[0]? = some (some .scr) := by rw [List.getElem?_set_ne (by decide)]; exact h0
      have g1 : (env.set 9 (some (.int i)))[1]? = some (some .town) := by rw [List.getElem?_set_ne (by decide)]; exact h1
      have g3 : (env.set 9 (some (.int i)))[3]? = some (some (.str z)) := by rw [List.getElem?_set_ne (by decide)]; exact h3
      simp only [List.map_cons, lcL, gNm, Option.bind_some, bYes, if_true, eTup, aCons, aNil, eCallN, eVar, g0, g1, g3, List.length_cons, List.length_nil, e, eC, ih]
      rw [if_pos (by decide)]
      simp only [Option.bind_some, ih]
      rw [show k + 1 + is.length = k + (is.length + 1) by omega]
      rfl
    · rcases List.mem_cons.mp hx with rfl | hx
      · exact hc
      · exact hs x hx
theorem fold_keys : ∀ (ts d : List (Str × Int)), (keysD d).Nodup → (keysD (ts.foldl (fun a p => sput a p.1 p.2) d)).Nodup ∧ (∀ c, c ∈ keysD (ts.foldl (fun a p => sput a p.1 p.2) d) ↔ c ∈ keysD d ∨ c ∈ keysD ts)
  | [], d, h => ⟨h, fun c => by simp [keysD]⟩
  | p :: ts, d, h => by
    obtain ⟨h1, h2⟩ := fold_keys ts (sput d p.1 p.2) (sput_nodup h)
    refine ⟨h1, fun c => ?_⟩
    rw [List.foldl_cons, h2 c, sput_mem]
    simp only [keysD, List.map_cons, List.mem_cons]
    constructor
    · rintro ((h | h) | h)
      · exact .inl h
      · exact .inr (.inl h)
      · exact .inr (.inr h)
    · rintro (h | h | h)
      · exact .inl (.inl h)
      · exact .inl (.inr h)
      · exact .inr h
theorem sorted_sub {l : List Str} (hn : l.Nodup) (hs : ∀ c ∈ l, c ∈ C8) : (sortS l).Sublist C8 := by
  have hp := sortS_perm l
  have e : sortS l = C8.filter fun c => decide (c ∈ l) := by
    refine perm_unique (r := fun a b => leS a b = true) (fun _ _ => leS_antisymm) ?_ (sortS_pw _) (c8_rise.filter _)
    refine (List.perm_ext_iff_of_nodup (hp.nodup_iff.mpr hn) (c8_nodup.filter _)).mpr fun c => ?_
    rw [List.mem_filter, hp.mem_iff]
    exact ⟨fun h => ⟨hs c h, by simpa using h⟩, fun h => by simpa using h.2⟩
  rw [e]
  exact List.filter_sublist
theorem lcP (ns : List Int) {z : Str} {cs : List Str} (hz : Tx z cs) (env : En) (h0 : env[0]? = some (some .scr)) (h1 : env[1]? = some (some .town)) (h3 : env[3]? = some (some (.str z))) (hl : 11 < env.length) : ∀ (xs : List Str) (k : Nat), k + 40 * xs.length < 15000000 → ∃ (ps : List Part) (k' : Nat),
    lcL (gNm 11) bYes (eTup (aCons (eVar 11) (aCons (eCallN 3 (mf__law_form ns) (aCons (eVar 0) (aCons (eVar 1) (aCons (eVar 3) aNil)))) aNil))) env (xs.map U.str) k = some (ps.map encP, k') ∧ k ≤ k' ∧ k' ≤ k + 40 * xs.length ∧ ps.map (·.1) = xs ∧ ∀ p ∈ ps, FOk p.2.1 p.2.2
  | [], k, _ => ⟨[], k, rfl, by omega, by simp, rfl, by simp⟩
  | x :: xs, k, h => by
    simp only [List.length_cons] at h
    obtain ⟨a, φ, k1, e, g1, g2, g3, _⟩ := form_eq ns hz (k := k) (by omega)
    obtain ⟨ps, k', ih, i1, i2, i3, i4⟩ := lcP ns hz env h0 h1 h3 hl xs k1 (by omega)
    refine ⟨(x, a, φ) :: ps, k', ?_, by omega, by simp only [List.length_cons]; omega, by simp [i3], fun p hp => ?_⟩
    · have q0 : (env.set 11 (some (.str x)))[0]? = some (some .scr) := by rw [List.getElem?_set_ne (by decide)]; exact h0
      have q1 : (env.set 11 (some (.str x)))[1]? = some (some .town) := by rw [List.getElem?_set_ne (by decide)]; exact h1
      have q3 : (env.set 11 (some (.str x)))[3]? = some (some (.str z)) := by rw [List.getElem?_set_ne (by decide)]; exact h3
      have q11 : (env.set 11 (some (.str x)))[11]? = some (some (.str x)) := by rw [List.getElem?_set_self hl]
      simp only [List.map_cons, lcL, gNm, Option.bind_some, bYes, if_true, eTup, aCons, aNil, eCallN, eVar, q0, q1, q3, q11, List.length_cons, List.length_nil, e]
      rw [if_pos (by decide)]
      simp only [Option.bind_some, ih]
      rfl
    · rcases List.mem_cons.mp hp with rfl | hp
      · exact g3
      · exact i4 p hp
def bodyR (ns : List Int) : SM := (sSeq (sAsg 7 (eCallN 3 (mf__law_pick ns) (aCons (eVar 0) (aCons (eVar 1) (aCons (eLst (aCons (eC (.int 1)) (aCons (eC (.int 1)) (aCons (eC (.int 1)) (aCons (eC (.int 1)) (aCons (eC (.int 2)) (aCons (eC (.int 3)) (aCons (eC (.int 4)) aNil)))))))) aNil))))) (sSeq (sAsg 8 (eFn fDict (aCons (eLc (aRng1 (eVar 7)) [9] (gNm 9) bYes (eTup (aCons (eCallN 3 (mf__law_pick ns) (aCons (eVar 0) (aCons (eVar 1) (aCons (eVar 3) aNil)))) (aCons (eC (.int 0)) aNil)))) aNil))) (sSeq (sAsg 10 (eFn fTuple (aCons (eLc (aItems (eFn fSorted (aCons (eVar 8) aNil))) [11] (gNm 11) bYes (eTup (aCons (eVar 11) (aCons (eCallN 3 (mf__law_form ns) (aCons (eVar 0) (aCons (eVar 1) (aCons (eVar 3) aNil)))) aNil)))) aNil))) (sAsg 5 (eBin fAdd (eVar 5) (eTup (aCons (eTup (aCons (eIdx ns (eVar 4) (eVar 6)) (aCons (eBin fAdd (eC (.int 1)) (eCallN 3 (mf__law_draw ns) (aCons (eVar 0) (aCons (eVar 1) (aCons (eC (.int 9)) aNil))))) (aCons (eVar 10) aNil)))) aNil)))))))
theorem turnR (ns : List Int) {z : Str} {cs : List Str} (hz : Tx z cs) (u2 : U) (ws : List Str) (r : List Dd) (i : Nat) (nm : Str) (hi : ws[i]? = some nm) (hr : r.length ≤ 100) (x7 x8 x9 x10 x11 : Option U) {k : Nat} (hk : k < 14000000) : ∃ d y7 y8 y9 y10 y11 k',
    bodyR ns [some .scr, some .town, some u2, some (.str z), some (.lst (ws.map U.str)), some (encR r), some (.int i), x7, x8, x9, x10, x11] k = some (.nx [some .scr, some .town, some u2, some (.str z), some (.lst (ws.map U.str)), some (encR (r ++ [d])), some (.int i), y7, y8, y9, y10, y11], k') ∧ k ≤ k' ∧ k' ≤ k + 200 ∧
    d.nm = nm ∧ 1 ≤ d.tk ∧ d.tk ≤ 9 ∧ (d.ps.map (·.1)).Sublist C8 ∧ d.ps ≠ [] ∧ d.ps.length ≤ 4 ∧ ∀ p ∈ d.ps, FOk p.2.1 p.2.2 := by
  obtain ⟨u, hu, e1⟩ := pick_eq ns (us := [.int 1, .int 1, .int 1, .int 1, .int 2, .int 3, .int 4]) (k := k) (by simp) (by omega)
  obtain ⟨w, rfl, w0, w1⟩ : ∃ w : Nat, u = .int w ∧ 1 ≤ w ∧ w ≤ 4 := by
    simp only [List.mem_cons, List.not_mem_nil, or_false] at hu
    rcases hu with rfl | rfl | rfl | rfl | rfl | rfl | rfl
    · exact ⟨1, rfl, by decide, by decide⟩
    · exact ⟨1, rfl, by decide, by decide⟩
    · exact ⟨1, rfl, by decide, by decide⟩
    · exact ⟨1, rfl, by decide, by decide⟩
    · exact ⟨2, rfl, by decide, by decide⟩
    · exact ⟨3, rfl, by decide, by decide⟩
    · exact ⟨4, rfl, by decide, by decide⟩
  have s1 : sAsg 7 (eCallN 3 (mf__law_pick ns) (aCons (eVar 0) (aCons (eVar 1) (aCons (eLst (aCons (eC (.int 1)) (aCons (eC (.int 1)) (aCons (eC (.int 1)) (aCons (eC (.int 1)) (aCons (eC (.int 2)) (aCons (eC (.int 3)) (aCons (eC (.int 4)) aNil)))))))) aNil)))) [some .scr, some .town, some u2, some (.str z), some (.lst (ws.map U.str)), some (encR r), some (.int i), x7, x8, x9, x10, x11] k = some (.nx [some .scr, some .town, some u2, some (.str z), some (.lst (ws.map U.str)), some (encR r), some (.int i), some (.int w), x8, x9, x10, x11], k + 1) := by
    simp [sAsg, eCallN, aCons, aNil, eVar, eLst, eC, e1]
  obtain ⟨ts, e2, hl2, hs2⟩ := lcC ns hz (wipeE [some .scr, some .town, some u2, some (.str z), some (.lst (ws.map U.str)), some (encR r), some (.int i), some (.int w), x8, x9, x10, x11] [9]) rfl rfl rfl (List.range w) (k + 1) (by rw [List.length_range]; omega)
  rw [List.length_range] at e2 hl2
  obtain ⟨hn, hm⟩ := fold_keys ts [] (by simp [keysD])
  generalize hdd : ts.foldl (fun a p => sput a p.1 p.2) [] = dd at hn hm
  have hsC : ∀ c ∈ keysD dd, c ∈ C8 := fun c hc => by
    rcases (hm c).mp hc with q | q
    · simp [keysD] at q
    · exact hz.sub.subset (hs2 c q)
  have h8 := keys_le hn hsC
  have s2 : sAsg 8 (eFn fDict (aCons (eLc (aRng1 (eVar 7)) [9] (gNm 9) bYes (eTup (aCons (eCallN 3 (mf__law_pick ns) (aCons (eVar 0) (aCons (eVar 1) (aCons (eVar 3) aNil)))) (aCons (eC (.int 0)) aNil)))) aNil)) [some .scr, some .town, some u2, some (.str z), some (.lst (ws.map U.str)), some (encR r), some (.int i), some (.int w), x8, x9, x10, x11] (k + 1) = some (.nx [some .scr, some .town, some u2, some (.str z), some (.lst (ws.map U.str)), some (encR r), some (.int i), some (.int w), some (.dct (emb dd)), x9, x10, x11], k + 1 + w) := by
    have a3 : (encT ts).length ≤ 1000 := by simp only [encT, List.length_map]; omega
    exact asg_run (fn_run1 (lc_run (rng_nat (w := w) rfl (by omega)) e2 a3) (dict_pairs hdd))
  have hsub := sorted_sub hn hsC
  have hsl : (sortS (keysD dd)).length ≤ 4 := by
    have q1 := (sortS_perm (keysD dd)).length_eq
    have q2 : (keysD dd).length ≤ (keysD ts).length := nodup_len hn fun c hc => ((hm c).mp hc).resolve_left (by simp [keysD])
    have q3 : (keysD ts).length = ts.length := by simp [keysD]
    omega
  have hsne : sortS (keysD dd) ≠ [] := fun q => by
    have q1 := (sortS_perm (keysD dd)).length_eq
    rw [q] at q1
    have q2 : keysD dd = [] := List.length_eq_zero_iff.mp q1.symm
    have q3 : ∃ p, p ∈ ts := by
      cases ts with
      | nil => simp at hl2; omega
      | cons p _ => exact ⟨p, List.mem_cons_self⟩
    obtain ⟨p, hp⟩ := q3
    have := (hm p.1).mpr (.inr (List.mem_map_of_mem hp))
    rw [q2] at this; simp at this
  obtain ⟨ps, k2, e3, g1, g2, g3, g4⟩ := lcP ns hz (wipeE [some .scr, some .town, some u2, some (.str z), some (.lst (ws.map U.str)), some (encR r), some (.int i), some (.int w), some (.dct (emb dd)), x9, x10, x11] [11]) rfl rfl rfl (by simp [wipeE]) (sortS (keysD dd)) (k + 1 + w) (by omega)
  have hpl : ps.length = (sortS (keysD dd)).length := by rw [← g3]; simp
  have s3 : sAsg 10 (eFn fTuple (aCons (eLc (aItems (eFn fSorted (aCons (eVar 8) aNil))) [11] (gNm 11) bYes (eTup (aCons (eVar 11) (aCons (eCallN 3 (mf__law_form ns) (aCons (eVar 0) (aCons (eVar 1) (aCons (eVar 3) aNil)))) aNil)))) aNil)) [some .scr, some .town, some u2, some (.str z), some (.lst (ws.map U.str)), some (encR r), some (.int i), some (.int w), some (.dct (emb dd)), x9, x10, x11] (k + 1 + w) = some (.nx [some .scr, some .town, some u2, some (.str z), some (.lst (ws.map U.str)), some (encR r), some (.int i), some (.int w), some (.dct (emb dd)), x9, some (.tup (ps.map encP)), x11], k2) := by
    have a2 : (ps.map encP).length ≤ 1000 := by rw [List.length_map]; omega
    have a1 : aItems (eFn fSorted (aCons (eVar 8) aNil)) [some .scr, some .town, some u2, some (.str z), some (.lst (ws.map U.str)), some (encR r), some (.int i), some (.int w), some (.dct (emb dd)), x9, x10, x11] (k + 1 + w) = some ((sortS (keysD dd)).map U.str, k + 1 + w) := by
      unfold aItems
      rw [fn_run1 (u := .dct (emb dd)) rfl (sorted_emb h8)]
      rfl
    exact asg_run (fn_run1 (lc_run a1 e3 a2) rfl)
  obtain ⟨v, e4, v0, v1⟩ := draw_eq ns (m := 9) (k := k2) (by decide) (by omega)
  refine ⟨⟨nm, 1 + v, ps⟩, some (.int w), some (.dct (emb dd)), x9, some (.tup (ps.map encP)), x11, k2 + 1, ?_, by omega, by omega, rfl, by show 1 ≤ 1 + v; omega, by show 1 + v ≤ 9; omega, by show (ps.map (·.1)).Sublist C8; rw [g3]; exact hsub, fun q => hsne (by rw [← g3]; show ps.map (·.1) = []; rw [show ps = [] from q]; rfl), by show ps.length ≤ 4; omega, g4⟩
  unfold bodyR
  rw [sSeq_nx s1, sSeq_nx s2, sSeq_nx s3]
  have a1 : atI (ws.map U.str) (i : Int) = some (.str nm) := atI_nat (by rw [List.getElem?_map, hi]; rfl)
  have a2 : (r.map encD).length + 1 ≤ 1000 := by rw [List.length_map]; omega
  have a3 : eBin fAdd (eC (.int 1)) (eCallN 3 (mf__law_draw ns) (aCons (eVar 0) (aCons (eVar 1) (aCons (eC (.int 9)) aNil)))) [some .scr, some .town, some u2, some (.str z), some (.lst (ws.map U.str)), some (encR r), some (.int i), some (.int w), some (.dct (emb dd)), x9, some (.tup (ps.map encP)), x11] k2 = some (.int (1 + v), k2 + 1) := by
    simp only [eBin, eC, eCallN, aCons, aNil, eVar, List.getElem?_cons_succ, List.getElem?_cons_zero, Option.bind_some, List.length_cons, List.length_nil, if_true, e4, fAdd]
  have a4 : eIdx ns (eVar 4) (eVar 6) [some .scr, some .town, some u2, some (.str z), some (.lst (ws.map U.str)), some (encR r), some (.int i), some (.int w), some (.dct (emb dd)), x9, some (.tup (ps.map encP)), x11] k2 = some (.str nm, k2) := by
    simp only [eIdx, eVar, List.getElem?_cons_succ, List.getElem?_cons_zero, Option.bind_some, fIdx, a1]
  have a5 : eTup (aCons (eTup (aCons (eIdx ns (eVar 4) (eVar 6)) (aCons (eBin fAdd (eC (.int 1)) (eCallN 3 (mf__law_draw ns) (aCons (eVar 0) (aCons (eVar 1) (aCons (eC (.int 9)) aNil))))) (aCons (eVar 10) aNil)))) aNil) [some .scr, some .town, some u2, some (.str z), some (.lst (ws.map U.str)), some (encR r), some (.int i), some (.int w), some (.dct (emb dd)), x9, some (.tup (ps.map encP)), x11] k2 = some (.tup [encD ⟨nm, 1 + v, ps⟩], k2 + 1) := by
    have b1 : eVar 10 [some .scr, some .town, some u2, some (.str z), some (.lst (ws.map U.str)), some (encR r), some (.int i), some (.int w), some (.dct (emb dd)), x9, some (.tup (ps.map encP)), x11] (k2 + 1) = some (.tup (ps.map encP), k2 + 1) := rfl
    have b2 : eTup (aCons (eIdx ns (eVar 4) (eVar 6)) (aCons (eBin fAdd (eC (.int 1)) (eCallN 3 (mf__law_draw ns) (aCons (eVar 0) (aCons (eVar 1) (aCons (eC (.int 9)) aNil))))) (aCons (eVar 10) aNil))) [some .scr, some .town, some u2, some (.str z), some (.lst (ws.map U.str)), some (encR r), some (.int i), some (.int w), some (.dct (emb dd)), x9, some (.tup (ps.map encP)), x11] k2 = some (encD ⟨nm, 1 + v, ps⟩, k2 + 1) := by
      rw [eTup, aCons, a4]
      simp only [Option.bind_some]
      rw [aCons, a3]
      simp only [Option.bind_some]
      rw [aCons, b1]
      rfl
    rw [eTup, aCons, b2]
    rfl
  have a6 : eVar 5 [some .scr, some .town, some u2, some (.str z), some (.lst (ws.map U.str)), some (encR r), some (.int i), some (.int w), some (.dct (emb dd)), x9, some (.tup (ps.map encP)), x11] k2 = some (encR r, k2) := rfl
  rw [sAsg, eBin, a6]
  simp only [Option.bind_some, a5]
  have a7 : fAdd (encR r) (.tup [encD ⟨nm, 1 + v, ps⟩]) = some (encR (r ++ [⟨nm, 1 + v, ps⟩])) := by
    unfold encR
    simp only [fAdd, List.length_cons, List.length_nil]
    rw [if_pos (by omega)]
    simp only [List.map_append, List.map_cons, List.map_nil]
  rw [a7]
  rfl
theorem loopR (ns : List Int) {z : Str} {cs : List Str} (hz : Tx z cs) (u2 : U) (ws : List Str) (hnd : ws.Nodup) (hws : ∀ w ∈ ws, w ∈ NM) : ∀ (n i : Nat) (r : List Dd) (x6 x7 x8 x9 x10 x11 : Option U) (k : Nat), i + n ≤ ws.length → r.map (·.nm) = ws.take i → (∀ d ∈ r, DGood d) → i + n ≤ 50 → k + 200 * n < 14000000 → ∃ r' y6 y7 y8 y9 y10 y11 k',
    forL (gNm 6) (bodyR ns) ((List.range' i n).map fun (j : Nat) => U.int j) [some .scr, some .town, some u2, some (.str z), some (.lst (ws.map U.str)), some (encR r), x6, x7, x8, x9, x10, x11] k = some (.nx [some .scr, some .town, some u2, some (.str z), some (.lst (ws.map U.str)), some (encR r'), y6, y7, y8, y9, y10, y11], k') ∧ k ≤ k' ∧ k' ≤ k + 200 * n ∧
    r'.map (·.nm) = ws.take (i + n) ∧ ∀ d ∈ r', DGood d
  | 0, i, r, x6, x7, x8, x9, x10, x11, k, _, h2, h3, _, _ => ⟨r, x6, x7, x8, x9, x10, x11, k, rfl, by omega, by omega, h2, h3⟩
  | n + 1, i, r, x6, x7, x8, x9, x10, x11, k, h1, h2, h3, h4, h5 => by
    have hi : ws[i]? = some ws[i] := List.getElem?_eq_getElem (by omega)
    have hrl : r.length = i := by
      have := congrArg List.length h2
      rw [List.length_map, List.length_take] at this
      omega
    obtain ⟨d, y7, y8, y9, y10, y11, k1, e1, g1, g2, g3, g4, g5, g6, g7, g8, g9⟩ := turnR ns hz u2 ws r i ws[i] hi (by omega) x7 x8 x9 x10 x11 (k := k) (by omega)
    have hd : DGood d := ⟨by rw [g3]; exact hws _ (List.getElem_mem _), g4, g5, g6, g7, g8, g9⟩
    obtain ⟨r', z6, z7, z8, z9, z10, z11, k2, e2, i1, i2, i3, i4⟩ := loopR ns hz u2 ws hnd hws n (i + 1) (r ++ [d]) (some (.int i)) y7 y8 y9 y10 y11 k1 (by omega) (by
      rw [List.map_append, h2, List.take_add_one, hi]
      simp [g3]) (fun x hx => by
      rcases List.mem_append.mp hx with hx | hx
      · exact h3 x hx
      · rw [List.mem_singleton.mp hx]; exact hd) (by omega) (by omega)
    refine ⟨r', z6, z7, z8, z9, z10, z11, k2, ?_, by omega, by omega, by rw [i3]; congr 1; omega, i4⟩
    rw [List.range'_succ, List.map_cons]
    simp only [forL, gNm, List.set_cons_succ, List.set_cons_zero, Option.bind_some, e1]
    exact e2
theorem perm_strs : ∀ {us : List U} {ss : List Str}, us.Perm (ss.map U.str) → ∃ ws : List Str, us = ws.map U.str ∧ ws.Perm ss := by
  intro us ss h
  have h1 : ∀ u ∈ us, ∃ s, u = .str s := fun u hu => by
    obtain ⟨s, _, rfl⟩ := List.mem_map.mp (h.mem_iff.mp hu)
    exact ⟨s, rfl⟩
  let g : U → Str := fun u => match u with | .str s => s | _ => ""
  refine ⟨us.map g, ?_, ?_⟩
  · rw [List.map_map]
    symm
    calc us.map (U.str ∘ g) = us.map id := List.map_congr_left fun u hu => by
            obtain ⟨s, rfl⟩ := h1 u hu
            rfl
      _ = us := List.map_id _
  · have := h.map g
    rw [List.map_map] at this
    rwa [show (g ∘ U.str) = id from rfl, List.map_id] at this
theorem row_eq (ns : List Int) {most : Nat} (hm : most ≤ 11) {k : Nat} (hk : k < 10000000) : ∃ r k', mf__law_row ns [.scr, .town, .int most] k = some (encR r, k') ∧ k ≤ k' ∧ k' ≤ k + 3000 ∧ RGood r most := by
  obtain ⟨u, hu, e1⟩ := pick_eq ns (us := [.str "ab", .str "cdef", .str "abcdefgh", .str "abcdefgh", .str "abcdefgh"]) (k := k) (by simp) (by omega)
  obtain ⟨z, cs, rfl, hz⟩ : ∃ z cs, u = .str z ∧ Tx z cs := by
    simp only [List.mem_cons, List.not_mem_nil, or_false] at hu
    rcases hu with rfl | rfl | rfl | rfl | rfl
    · exact ⟨_, _, rfl, tx2⟩
    · exact ⟨_, _, rfl, tx4⟩
    · exact ⟨_, _, rfl, tx8⟩
    · exact ⟨_, _, rfl, tx8⟩
    · exact ⟨_, _, rfl, tx8⟩
  obtain ⟨wsU, hp0, e2⟩ := mixed_eq ns (x := .lst (NM.map U.str)) (us := NM.map U.str) rfl (by simp) (k := k + 1) (by omega)
  obtain ⟨ws, rfl, hp⟩ := perm_strs hp0
  have hwl : ws.length = 12 := hp.length_eq
  have hnd : ws.Nodup := hp.nodup_iff.mpr nm_nodup
  rw [show (NM.map U.str).length = 12 from rfl] at e2
  have s1 : sAsg 3 (eCallN 3 (mf__law_pick ns) (aCons (eVar 0) (aCons (eVar 1) (aCons (eLst (aCons (eC (.str "ab")) (aCons (eC (.str "cdef")) (aCons (eC (.str "abcdefgh")) (aCons (eC (.str "abcdefgh")) (aCons (eC (.str "abcdefgh")) aNil)))))) aNil)))) [some .scr, some .town, some (.int most), none, none, none, none, none, none, none, none, none] k = some (.nx [some .scr, some .town, some (.int most), some (.str z), none, none, none, none, none, none, none, none], k + 1) := by
    simp [sAsg, eCallN, aCons, aNil, eVar, eLst, eC, e1]
  have s2 : sAsg 4 (eCallN 3 (mf__law_mixed ns) (aCons (eVar 0) (aCons (eVar 1) (aCons (eLst (aCons (eC (.str "a")) (aCons (eC (.str "b")) (aCons (eC (.str "bb")) (aCons (eC (.str "c")) (aCons (eC (.str "ft")) (aCons (eC (.str "hed")) (aCons (eC (.str "j")) (aCons (eC (.str "mlsp")) (aCons (eC (.str "q")) (aCons (eC (.str "uvwy")) (aCons (eC (.str "x")) (aCons (eC (.str "zzzz")) aNil))))))))))))) aNil)))) [some .scr, some .town, some (.int most), some (.str z), none, none, none, none, none, none, none, none] (k + 1) = some (.nx [some .scr, some .town, some (.int most), some (.str z), some (.lst (ws.map U.str)), none, none, none, none, none, none, none], k + 1 + 12) := by
    simp only [List.map_cons, List.map_nil] at e2
    simp [sAsg, eCallN, aCons, aNil, eVar, eLst, eC, e2]
  have s3 : sAsg 5 (eTup aNil) [some .scr, some .town, some (.int most), some (.str z), some (.lst (ws.map U.str)), none, none, none, none, none, none, none] (k + 1 + 12) = some (.nx [some .scr, some .town, some (.int most), some (.str z), some (.lst (ws.map U.str)), some (encR []), none, none, none, none, none, none], k + 1 + 12) := by
    simp [sAsg, eTup, aNil, encR]
  obtain ⟨v, e3, v0, v1⟩ := draw_eq ns (m := (most : Int) + 1) (k := k + 1 + 12) (by omega) (by omega)
  obtain ⟨r, y6, y7, y8, y9, y10, y11, k2, e4, g1, g2, g3, g4⟩ := loopR ns hz (.int most) ws hnd (fun w hw => hp.mem_iff.mp hw) v.toNat 0 [] none none none none none none (k + 1 + 12 + 1) (by omega) (by simp) (by simp) (by omega) (by omega)
  have s4 : sFor (aRng1 (eCallN 3 (mf__law_draw ns) (aCons (eVar 0) (aCons (eVar 1) (aCons (eBin fAdd (eVar 2) (eC (.int 1))) aNil))))) (gNm 6) (bodyR ns) [some .scr, some .town, some (.int most), some (.str z), some (.lst (ws.map U.str)), some (encR []), none, none, none, none, none, none] (k + 1 + 12) = some (.nx [some .scr, some .town, some (.int most), some (.str z), some (.lst (ws.map U.str)), some (encR r), y6, y7, y8, y9, y10, y11], k2) := by
    have a1 : aRng1 (eCallN 3 (mf__law_draw ns) (aCons (eVar 0) (aCons (eVar 1) (aCons (eBin fAdd (eVar 2) (eC (.int 1))) aNil)))) [some .scr, some .town, some (.int most), some (.str z), some (.lst (ws.map U.str)), some (encR []), none, none, none, none, none, none] (k + 1 + 12) = some ((List.range' 0 v.toNat).map fun (j : Nat) => U.int j, k + 1 + 12 + 1) := by
      have b1 : eCallN 3 (mf__law_draw ns) (aCons (eVar 0) (aCons (eVar 1) (aCons (eBin fAdd (eVar 2) (eC (.int 1))) aNil))) [some .scr, some .town, some (.int most), some (.str z), some (.lst (ws.map U.str)), some (encR []), none, none, none, none, none, none] (k + 1 + 12) = some (.int v, k + 1 + 12 + 1) := by
        simp only [eCallN, aCons, aNil, eVar, eBin, eC, fAdd, List.getElem?_cons_succ, List.getElem?_cons_zero, Option.bind_some, List.length_cons, List.length_nil, if_true, e3]
      rw [rng_int b1 ⟨by omega, by omega⟩, List.range_eq_range']
    simp only [sFor, a1, Option.bind_some]
    exact e4
  refine ⟨r, k2, runM_rt (k' := k2) ?_, by omega, by omega, ⟨?_, g4, ?_⟩⟩
  · show m__law_row ns [some .scr, some .town, some (.int most), none, none, none, none, none, none, none, none, none] k = _
    unfold m__law_row
    rw [sSeq_nx s1, sSeq_nx s2, sSeq_nx s3]
    refine (sSeq_nx s4).trans ?_
    rfl
  · have := congrArg List.length g3
    rw [List.length_map, List.length_take] at this
    omega
  · rw [g3]
    exact hnd.sublist (List.take_sublist _ _)
end Cm
set_option linter.all false
set_option Elab.async false
set_option maxRecDepth 100000
set_option maxHeartbeats 1000000
namespace Cm
open PySem L2 UM
section
variable {ns : List Int} {a b c : EM} {ma mb : BM} {s1 s2 : SM} {env env' : En} {k k1 k2 k3 k4 : Nat} {u v w r : U} {us ws : List U} {i : Int}
theorem call1_run {f : List U → Nat → Option (U × Nat)} (h1 : a env k = some (u, k1)) (hf : f [u] k1 = some (r, k2)) : eCallN 1 f (aCons a aNil) env k = some (r, k2) := by
  unfold eCallN aCons aNil
  rw [h1]
  exact hf
theorem call2_run {f : List U → Nat → Option (U × Nat)} (h1 : a env k = some (u, k1)) (h2 : b env k1 = some (v, k2)) (hf : f [u, v] k2 = some (r, k3)) : eCallN 2 f (aCons a (aCons b aNil)) env k = some (r, k3) := by
  simp only [eCallN, aCons, aNil, h1, h2, Option.bind_some]
  exact hf
theorem call3_run {f : List U → Nat → Option (U × Nat)} (h1 : a env k = some (u, k1)) (h2 : b env k1 = some (v, k2)) (h3 : c env k2 = some (w, k3)) (hf : f [u, v, w] k3 = some (r, k4)) : eCallN 3 f (aCons a (aCons b (aCons c aNil))) env k = some (r, k4) := by
  simp only [eCallN, aCons, aNil, h1, h2, h3, Option.bind_some]
  exact hf
theorem bin_run {f : U → U → Option U} (h1 : a env k = some (u, k1)) (h2 : b env k1 = some (v, k2)) (hf : f u v = some r) : eBin f a b env k = some (r, k2) := by
  simp only [eBin, h1, h2, hf, Option.bind_some]
theorem un_run {f : U → Option U} (h1 : a env k = some (u, k1)) (hf : f u = some r) : eUn f a env k = some (r, k1) := by
  simp only [eUn, h1, hf, Option.bind_some]
theorem val_run {x : Bool} (h : a env k = some (.bl x, k1)) : bVal a env k = some (x, k1) := by
  simp only [bVal, h, Option.bind_some]
theorem tru_run {x : Bool} (h : a env k = some (u, k1)) (ht : truU ns u = some x) : bTru ns a env k = some (x, k1) := by
  simp only [bTru, h, ht, Option.bind_some]
theorem not_run {x : Bool} (h : ma env k = some (x, k1)) : bNot ma env k = some (!x, k1) := by
  simp only [bNot, h, Option.bind_some]
theorem or_ff (h1 : ma env k = some (false, k1)) (h2 : mb env k1 = some (false, k2)) : bOr ma mb env k = some (false, k2) := by
  simp only [bOr, h1, h2, Option.bind_some, Bool.false_eq_true, if_false]
theorem if_skip {k' : Nat} (h : ma env k = some (false, k')) : sIf ma s1 sSkip env k = some (.nx env, k') := by
  simp only [sIf, h, Option.bind_some, Bool.false_eq_true, if_false, sSkip]
theorem par_run {i j : Nat} (h1 : a env k = some (u, k1)) (h2 : b env k1 = some (v, k2)) : sPar i j (aCons a (aCons b aNil)) env k = some (.nx ((env.set i (some u)).set j (some v)), k2) := by
  simp only [sPar, aCons, aNil, h1, h2, Option.bind_some]
theorem seq_run {c : Ctl × Nat} (h1 : s1 env k = some (.nx env', k1)) (h2 : s2 env' k1 = some c) : sSeq s1 s2 env k = some c := (sSeq_nx h1).trans h2
theorem for_run {src : AM} {g : GM} {c : Ctl × Nat} (h1 : src env k = some (us, k1)) (h2 : forL g s1 us env k1 = some c) : sFor src g s1 env k = some c := by
  simp only [sFor, h1, Option.bind_some, h2]
theorem items_run (h1 : a env k = some (u, k1)) (h2 : itemsU u = some us) : aItems a env k = some (us, k1) := by
  simp only [aItems, h1, h2, Option.bind_some]
theorem enum_run (h1 : a env k = some (u, k1)) (h2 : itemsE u = some us) : aEnum a env k = some (enumU us, k1) := by
  simp only [aEnum, h1, h2, Option.bind_some]
theorem slT_from {n : Nat} (h1 : a env k = some (.tup us, k1)) (h2 : b env k1 = some (.int n, k2)) : eSl a (oYes b) oNo env k = some (.tup (us.drop n), k2) := by
  simp only [eSl, oNo, oYes, h1, h2, Option.bind_some, fSl, cutU]
  rw [HT.sIx_nat]
  show some (U.tup ((us.drop (min n us.length)).take (us.length - min n us.length)), k2) = _
  rw [List.take_of_length_le (by rw [List.length_drop]; omega)]
  by_cases h : n ≤ us.length
  · rw [Nat.min_eq_left h]
  · rw [List.drop_of_length_le (by omega), List.drop_of_length_le (by omega)]
end
theorem forL_fam {g : GM} {body : SM} {P : En → Prop} {k : Nat} : ∀ {us : List U}, (∀ u ∈ us, ∀ env, P env → ∃ env1 e, g u env = some env1 ∧ body env1 k = some (.nx e, k) ∧ P e) → ∀ env, P env → ∃ e, forL g body us env k = some (.nx e, k) ∧ P e
  | [], _, env, p => ⟨env, rfl, p⟩
  | u :: us, h, env, p => by
    obtain ⟨env1, e, h1, h2, h3⟩ := h u List.mem_cons_self env p
    obtain ⟨e', h4, h5⟩ := forL_fam (us := us) (fun x hx => h x (List.mem_cons_of_mem _ hx)) e h3
    exact ⟨e', by simp only [forL, h1, Option.bind_some, h2, h4], h5⟩
theorem wdF_out (φ : Str → Int) : ∀ (ps : List Part) (χ : Str → Int) {c : Str}, c ∉ ps.map (·.1) → wdF φ ps χ c = χ c
  | [], _, _, _ => rfl
  | p :: ps, χ, c, h => by
    show wdF φ ps (fun c => if c = p.1 then wv p φ else χ c) c = _
    rw [wdF_out φ ps _ fun z => h (List.mem_cons_of_mem _ z), if_neg fun z => h (by rw [z]; exact List.mem_cons_self)]
theorem wdF_in (φ : Str → Int) : ∀ (ps : List Part) (χ : Str → Int) {p : Part}, (ps.map (·.1)).Nodup → p ∈ ps → wdF φ ps χ p.1 = wv p φ
  | q :: ps, χ, p, hn, h => by
    obtain ⟨h1, h2⟩ := List.nodup_cons.mp (show (q.1 :: ps.map (·.1)).Nodup from hn)
    show wdF φ ps (fun c => if c = q.1 then wv q φ else χ c) p.1 = _
    rcases List.mem_cons.mp h with rfl | h
    · rw [wdF_out φ ps _ h1, if_pos rfl]
    · exact wdF_in φ ps _ h2 h
theorem dn_out {d : Dd} {φ : Str → Int} {c : Str} (h : c ∉ d.ps.map (·.1)) : dn d φ c = φ c := wdF_out φ d.ps φ h
theorem dn_in {d : Dd} {φ : Str → Int} {p : Part} (hn : (d.ps.map (·.1)).Nodup) (h : p ∈ d.ps) : dn d φ p.1 = wv p φ := wdF_in φ d.ps φ hn h
theorem rn_append : ∀ (x y : List Dd) (φ : Str → Int), rn (x ++ y) φ = rn y (rn x φ)
  | [], _, _ => rfl
  | d :: x, y, φ => rn_append x y (dn d φ)
end Cm
set_option linter.all false
set_option Elab.async false
set_option maxRecDepth 100000
set_option maxHeartbeats 1000000
namespace Cm
open PySem L2 UM
def WR (d : Dd) : List Str := d.ps.map (·.1)
def wrb (d : Dd) (c : Str) : Bool := decide (c ∈ WR d)
def strT (l : List Str) : U := .tup (l.map U.str)
theorem writes_eq (ns : List Int) {d : Dd} (hl : d.ps.length ≤ 100) (k : Nat) : mf_writes ns [encD d] k = some (strT (WR d), k) := by
  refine runM_rt (k' := k) ?_
  show m_writes ns [some (encD d), none, none, none, none, none] k = _
  unfold m_writes
  have s1 : sAsgG (gTp 3 (gsCons (gNm 1) (gsCons (gNm 2) (gsCons (gNm 3) gsNil)))) (eVar 0) [some (encD d), none, none, none, none, none] k = some (.nx [some (encD d), some (.str d.nm), some (.int d.tk), some (.tup (d.ps.map encP)), none, none], k) := by
    simp [sAsgG, eVar, encD, gTp, itemsT, gsCons, gNm, gsNil]
  refine seq_run s1 ?_
  have e1 : genL (gTp 2 (gsCons (gNm 4) (gsCons (gNm 5) gsNil))) bYes (eVar 4) [some (encD d), some (.str d.nm), some (.int d.tk), some (.tup (d.ps.map encP)), none, none] k (d.ps.map encP) = some (d.ps.map fun p => .str p.1) :=
    genL_map encP _ fun p hp => ⟨[some (encD d), some (.str d.nm), some (.int d.tk), some (.tup (d.ps.map encP)), some (.str p.1), some (E p.2.1 p.2.2)], by simp [gTp, encP, itemsT, gsCons, gNm, gsNil], rfl, rfl⟩
  have hlen : (d.ps.map fun p => U.str p.1).length ≤ 1000 := by rw [List.length_map]; omega
  unfold sRet eTupG
  rw [items_run (u := .tup (d.ps.map encP)) (us := d.ps.map encP) (k1 := k) rfl rfl]
  simp only [Option.bind_some, wipeE, List.set_cons_succ, List.set_cons_zero]
  rw [e1]
  simp only [Option.bind_some]
  rw [if_pos hlen]
  simp [strT, WR, Function.comp_def]
end Cm
set_option linter.all false
set_option Elab.async false
set_option maxRecDepth 100000
set_option maxHeartbeats 1000000
namespace Cm
open PySem L2 UM
theorem lc_cells (ns : List Int) (a : U) {d : List (Str × Int)} (k : Nat) : ∀ cs : List Str, (∀ c ∈ cs, c ∈ keysD d) →
    lcL (gNm 3) (bVal (eBin fNe (eIdx ns (eVar 1) (eVar 3)) (eC (.int 0)))) (eVar 3) [some a, some (.dct (emb d)), none, none] (cs.map U.str) k = some ((cs.filter fun c => co d c != 0).map U.str, k)
  | [], _ => rfl
  | c :: cs, h => by
    have ih := lc_cells ns a (d := d) k cs fun x hx => h x (List.mem_cons_of_mem _ hx)
    have hc := idx_emb (h c List.mem_cons_self)
    simp only [List.map_cons, lcL, gNm, List.set_cons_succ, List.set_cons_zero, Option.bind_some, bVal, eBin, eIdx, eVar, List.getElem?_cons_succ, List.getElem?_cons_zero, hc, eC, fNe_int, ih]
    by_cases z : co d c = 0
    · simp [z]
    · simp [z]
theorem gen_cells (ns : List Int) (a b : U) {d : List (Str × Int)} (k : Nat) : ∀ cs : List Str, (∀ c ∈ cs, c ∈ keysD d) →
    genL (gNm 3) bYes (eTup (aCons (eVar 3) (aCons (eIdx ns (eVar 1) (eVar 3)) aNil))) [some a, some (.dct (emb d)), some b, none] k (cs.map U.str) = some (cs.map fun c => .tup [.str c, .int (co d c)])
  | [], _ => rfl
  | c :: cs, h => by
    have ih := gen_cells ns a b (d := d) k cs fun x hx => h x (List.mem_cons_of_mem _ hx)
    have hc := idx_emb (h c List.mem_cons_self)
    simp only [List.map_cons, genL, gNm, List.set_cons_succ, List.set_cons_zero, Option.bind_some, bYes, eTup, aCons, aNil, eIdx, eVar, List.getElem?_cons_succ, List.getElem?_cons_zero, hc, ih]
    simp
theorem form_of_eq (ns : List Int) (n : Int) {d : List (Str × Int)} (hd : (keysD d).Nodup) (hs : ∀ c ∈ keysD d, c ∈ C8) (k : Nat) : mf_form_of ns [.int n, .dct (emb d)] k = some (E n (co d), k) := by
  have h8 := keys_le hd hs
  have hsub : ∀ c ∈ sortS (keysD d), c ∈ keysD d := fun c hc => (sortS_perm _).mem_iff.mp hc
  have h1 := lc_cells ns (.int n) (d := d) k (sortS (keysD d)) hsub
  rw [cells_eq hd hs] at h1
  have hsub2 : ∀ c ∈ C8.filter (fun c => co d c != 0), c ∈ keysD d := fun c hc => by
    rw [← cells_eq hd hs] at hc
    exact hsub c (List.mem_filter.mp hc).1
  have h2 := gen_cells ns (.int n) (.lst ((C8.filter fun c => co d c != 0).map U.str)) (d := d) k _ hsub2
  have hlen : (C8.filter fun c => co d c != 0).length ≤ 8 := List.length_filter_le _ _
  have e1 : eLc (aItems (eFn fSorted (aCons (eVar 1) aNil))) [3] (gNm 3) (bVal (eBin fNe (eIdx ns (eVar 1) (eVar 3)) (eC (.int 0)))) (eVar 3) [some (.int n), some (.dct (emb d)), none, none] k = some (.lst ((C8.filter fun c => co d c != 0).map U.str), k) := by
    simp only [eLc, aItems, eFn, aCons, aNil, eVar, List.getElem?_cons_succ, List.getElem?_cons_zero, Option.bind_some, sorted_emb h8, itemsU, wipeE, List.set_cons_succ, List.set_cons_zero, h1, List.length_map]
    rw [if_pos (by omega)]
  have e2 : eTupG (aItems (eVar 2)) [3] (gNm 3) bYes (eTup (aCons (eVar 3) (aCons (eIdx ns (eVar 1) (eVar 3)) aNil))) [some (.int n), some (.dct (emb d)), some (.lst ((C8.filter fun c => co d c != 0).map U.str)), none] k = some (.tup (encT (nf (co d))), k) := by
    simp only [eTupG, aItems, eVar, List.getElem?_cons_succ, List.getElem?_cons_zero, Option.bind_some, itemsU, wipeE, List.set_cons_succ, List.set_cons_zero, h2, List.length_map]
    rw [if_pos (by omega)]
    simp [encT, nf, Function.comp_def]
  unfold mf_form_of runM m_form_of
  simp only [List.map_cons, List.map_nil, List.length_cons, List.length_nil, List.replicate, List.cons_append, List.nil_append, sSeq, sAsg, sRet, e1, Option.bind_some, List.set_cons_succ, List.set_cons_zero, eTup, aCons, aNil, e2]
  simp [eVar, E, e2]
def addD (d ts : List (Str × Int)) : List (Str × Int) := ts.foldl (fun a p => sput a p.1 (co a p.1 + p.2)) d
theorem addD_ok : ∀ (ts d : List (Str × Int)), (keysD d).Nodup → (∀ c ∈ keysD d, c ∈ C8) → (∀ c ∈ keysD ts, c ∈ C8) → (keysD (addD d ts)).Nodup ∧ ∀ c ∈ keysD (addD d ts), c ∈ C8
  | [], d, h1, h2, _ => ⟨h1, h2⟩
  | p :: ts, d, h1, h2, h3 => addD_ok ts _ (sput_nodup h1) (fun c hc => (sput_mem.mp hc).elim (h2 c) fun z => z ▸ h3 _ List.mem_cons_self) fun c hc => h3 c (List.mem_cons_of_mem _ hc)
theorem co_addD : ∀ (ts d : List (Str × Int)), (keysD ts).Nodup → ∀ x, co (addD d ts) x = co d x + co ts x
  | [], d, _, x => by simp [addD, co_nil]
  | p :: ts, d, h, x => by
    obtain ⟨h1, h2⟩ := List.nodup_cons.mp (show (p.1 :: keysD ts).Nodup from h)
    show co (addD (sput d p.1 (co d p.1 + p.2)) ts) x = _
    rw [co_addD ts _ h2, co_put, co_cons]
    by_cases e : p.1 = x
    · subst e
      rw [if_pos rfl, if_pos rfl, co_out h1]; omega
    · rw [if_neg (Ne.symm e), if_neg e]
theorem loop_plus (u0 u1 : U) (k : Nat) : ∀ (ts d : List (Str × Int)) (x3 x4 : Option U), (keysD d).Nodup → (∀ c ∈ keysD d, c ∈ C8) → (∀ c ∈ keysD ts, c ∈ C8) → ∃ y3 y4,
    forL (gTp 2 (gsCons (gNm 3) (gsCons (gNm 4) gsNil))) (sDput 2 (eVar 3) (eImm (eBin fAdd (eGet (eVar 2) (eVar 3) (eC (.int 0))) (eVar 4)))) (encT ts) [some u0, some u1, some (.dct (emb d)), x3, x4] k
      = some (.nx [some u0, some u1, some (.dct (emb (addD d ts))), y3, y4], k)
  | [], d, x3, x4, _, _, _ => ⟨x3, x4, rfl⟩
  | p :: ts, d, x3, x4, h1, h2, h3 => by
    have h8 := keys_le h1 h2
    obtain ⟨y3, y4, ih⟩ := loop_plus u0 u1 k ts (sput d p.1 (co d p.1 + p.2)) (some (.str p.1)) (some (.int p.2)) (sput_nodup h1) (fun c hc => (sput_mem.mp hc).elim (h2 c) fun z => z ▸ h3 _ List.mem_cons_self) fun c hc => h3 c (List.mem_cons_of_mem _ hc)
    refine ⟨y3, y4, ?_⟩
    have hl : (emb d).length < 1000 := by simp only [emb, List.length_map]; omega
    have key : forL (gTp 2 (gsCons (gNm 3) (gsCons (gNm 4) gsNil))) (sDput 2 (eVar 3) (eImm (eBin fAdd (eGet (eVar 2) (eVar 3) (eC (.int 0))) (eVar 4)))) (encT (p :: ts)) [some u0, some u1, some (.dct (emb d)), x3, x4] k
        = forL (gTp 2 (gsCons (gNm 3) (gsCons (gNm 4) gsNil))) (sDput 2 (eVar 3) (eImm (eBin fAdd (eGet (eVar 2) (eVar 3) (eC (.int 0))) (eVar 4)))) (encT ts) [some u0, some u1, some (.dct (emb (sput d p.1 (co d p.1 + p.2)))), some (.str p.1), some (.int p.2)] k := by
      simp [encT, forL, gTp, itemsT, gsCons, gNm, gsNil, sDput, eImm, eBin, eGet, eVar, eC, toKey, emb_getD, fAdd, UM.imm, hl, emb_put]
    rw [key]
    exact ih
theorem plus_eq (ns : List Int) (a b : Int) (φ ψ : Str → Int) (k : Nat) : mf_plus ns [E a φ, E b ψ] k = some (E (a + b) (fun c => φ c + ψ c), k) := by
  have hn := nf_nodup φ
  have hs := nf_sub φ
  obtain ⟨y3, y4, hl⟩ := loop_plus (E a φ) (E b ψ) k (nf ψ) (nf φ) none none hn hs (nf_sub ψ)
  obtain ⟨g1, g2⟩ := addD_ok (nf ψ) (nf φ) hn hs (nf_sub ψ)
  have hf := form_of_eq ns (a + b) g1 g2 k
  have e : E (a + b) (co (addD (nf φ) (nf ψ))) = E (a + b) (fun c => φ c + ψ c) := E_ext rfl fun c hc => by
    rw [co_addD _ _ (nf_nodup ψ), co_nf hc, co_nf hc]
  rw [e] at hf
  unfold mf_plus runM m_plus
  simp [sSeq, sAsg, eFn, aCons, aNil, eIdx, eVar, eC, E, fIdx, atI, ixN, dict_encT hn] at hl ⊢
  simp [sFor, aItems, eIdx, eVar, eC, fIdx, atI, ixN, itemsU, hl]
  simp [sRet, eCallN, aCons, aNil, eBin, eIdx, eVar, eC, fIdx, atI, ixN, fAdd, hf]
  rfl
def mulD (m : Int) (ts : List (Str × Int)) : List (Str × Int) := ts.map fun p => (p.1, p.2 * m)
theorem mulD_keys (m : Int) (ts : List (Str × Int)) : keysD (mulD m ts) = keysD ts := by simp [keysD, mulD]
theorem co_mulD (m : Int) : ∀ (ts : List (Str × Int)) (x : Str), co (mulD m ts) x = co ts x * m
  | [], x => by simp [mulD, co_nil]
  | p :: ts, x => by
    show co ((p.1, p.2 * m) :: mulD m ts) x = _
    rw [co_cons, co_cons, co_mulD m ts x]
    split <;> rfl
theorem dc_times (u0 : U) (x2 x3 : Option U) {m : Int} (hm : Sml m) (k : Nat) : ∀ (ts d : List (Str × Int)), (keysD d).Nodup → (∀ c ∈ keysD d, c ∈ C8) → (∀ c ∈ keysD ts, c ∈ C8) →
    dcL (gTp 2 (gsCons (gNm 4) (gsCons (gNm 5) gsNil))) bYes (eVar 4) (eBin fMul (eVar 5) (eVar 1)) [some u0, some (.int m), x2, x3, none, none] (encT ts) (emb d) k = some (emb ((mulD m ts).foldl (fun a p => sput a p.1 p.2) d), k)
  | [], d, _, _, _ => rfl
  | p :: ts, d, h1, h2, h3 => by
    have h8 := keys_le h1 h2
    have hl : (emb d).length < 1000 := by simp only [emb, List.length_map]; omega
    have ih := dc_times u0 x2 x3 hm k ts (sput d p.1 (p.2 * m)) (sput_nodup h1) (fun c hc => (sput_mem.mp hc).elim (h2 c) fun z => z ▸ h3 _ List.mem_cons_self) fun c hc => h3 c (List.mem_cons_of_mem _ hc)
    show dcL _ _ _ _ _ (.tup [.str p.1, .int p.2] :: encT ts) _ _ = _
    simp only [dcL, gTp, itemsT, gsCons, gNm, gsNil, List.length_cons, List.length_nil, Option.bind_some, List.set_cons_succ, List.set_cons_zero, if_true, bYes, eVar, eBin, List.getElem?_cons_succ, List.getElem?_cons_zero, fMul_r hm, toKey, emb_put]
    rw [if_pos hl]
    exact ih
theorem times_eq (ns : List Int) (a : Int) (φ : Str → Int) {m : Int} (hm : Sml m) (k : Nat) : mf_times ns [E a φ, .int m] k = some (E (a * m) (fun c => φ c * m), k) := by
  have hn := nf_nodup φ
  have hs := nf_sub φ
  have hd := dc_times (E a φ) (some (.int a)) (some (.tup (encT (nf φ)))) hm k (nf φ) [] (by simp [keysD]) (by simp [keysD]) hs
  rw [fold_new (mulD m (nf φ)) [] (by rw [List.nil_append, mulD_keys]; exact hn), List.nil_append] at hd
  have hf := form_of_eq ns (a * m) (d := mulD m (nf φ)) (by rw [mulD_keys]; exact hn) (by rw [mulD_keys]; exact hs) k
  have e : E (a * m) (co (mulD m (nf φ))) = E (a * m) (fun c => φ c * m) := E_ext rfl fun c hc => by rw [co_mulD, co_nf hc]
  rw [e] at hf
  unfold mf_times runM m_times
  rw [show emb [] = [] from rfl] at hd
  simp [sSeq, sAsgG, eVar, E, gTp, itemsT, gsCons, gNm, gsNil] at hd ⊢
  simp [sRet, eCallN, aCons, aNil, eBin, eVar, fMul_r hm, eDc, aItems, itemsU, wipeE, hd, hf]
  rfl
def dl (c x : Str) : Int := if x = c then 1 else 0
theorem E_itself {c : Str} (hc : c ∈ C8) : U.tup [.int 0, .tup [.tup [.str c, .int 1]]] = E 0 (dl c) := by
  have h := nf_of (ts := [(c, 1)]) (by simpa [keysD] using hc) (by simp)
  unfold E
  rw [show nf (dl c) = [(c, 1)] from by
    rw [← h]
    refine nf_ext fun x hx => ?_
    rw [co_cons, co_nil]
    unfold dl
    by_cases e : c = x
    · rw [if_pos e, if_pos e.symm]
    · rw [if_neg e, if_neg (Ne.symm e)]]
  rfl
theorem E_zero (a : Int) : U.tup [.int a, .tup []] = E a (fun _ => 0) := by
  unfold E nf
  simp [encT]
theorem form_of_cell_eq (ns : List Int) {c : Str} (hc : c ∈ C8) (k : Nat) : mf_form_of_cell ns [.str c] k = some (E 0 (dl c), k) := by
  rw [← E_itself hc]
  rfl
theorem loop_put (ns : List Int) (u0 u2 u3 : U) {tb : List (Key × U)} {tf : Str → Int × (Str → Int)} (htb : ∀ c ∈ C8, (kget tb (.inr c)).getD (E 0 (dl c)) = E (tf c).1 (tf c).2) (k : Nat) : ∀ (ts : List (Str × Int)) (b : Int) (χ : Str → Int) (x5 x6 : Option U), (∀ p ∈ ts, p.1 ∈ C8 ∧ Sml p.2) → ∃ y5 y6,
    forL (gTp 2 (gsCons (gNm 5) (gsCons (gNm 6) gsNil))) (sAsg 4 (eCallN 2 (mf_plus ns) (aCons (eVar 4) (aCons (eCallN 2 (mf_times ns) (aCons (eGet (eVar 1) (eVar 5) (eCallN 1 (mf_form_of_cell ns) (aCons (eVar 5) aNil))) (aCons (eVar 6) aNil))) aNil))))
      (encT ts) [some u0, some (.dct tb), some u2, some u3, some (E b χ), x5, x6] k
      = some (.nx [some u0, some (.dct tb), some u2, some u3, some (E (b + (ts.map fun p => p.2 * (tf p.1).1).sum) (fun x => χ x + (ts.map fun p => p.2 * (tf p.1).2 x).sum)), y5, y6], k)
  | [], b, χ, x5, x6, _ => ⟨x5, x6, by simp [encT, forL]⟩
  | p :: ts, b, χ, x5, x6, h => by
    obtain ⟨hc, hm⟩ := h p List.mem_cons_self
    obtain ⟨y5, y6, ih⟩ := loop_put ns u0 u2 u3 htb k ts (b + (tf p.1).1 * p.2) (fun x => χ x + (tf p.1).2 x * p.2) (some (.str p.1)) (some (.int p.2)) fun q hq => h q (List.mem_cons_of_mem _ hq)
    refine ⟨y5, y6, ?_⟩
    have e : E (b + (tf p.1).1 * p.2 + (ts.map fun p => p.2 * (tf p.1).1).sum) (fun x => χ x + (tf p.1).2 x * p.2 + (ts.map fun p => p.2 * (tf p.1).2 x).sum) = E (b + ((p :: ts).map fun p => p.2 * (tf p.1).1).sum) (fun x => χ x + ((p :: ts).map fun p => p.2 * (tf p.1).2 x).sum) := by
      refine E_ext ?_ fun x _ => ?_
      · simp only [List.map_cons, List.sum_cons]; rw [Int.mul_comm p.2]; omega
      · simp only [List.map_cons, List.sum_cons]; rw [Int.mul_comm p.2]; omega
    rw [e] at ih
    rw [← ih]
    show forL _ _ (.tup [.str p.1, .int p.2] :: encT ts) _ _ = _
    simp [forL, gTp, itemsT, gsCons, gNm, gsNil, sAsg, aCons, aNil, eC, eVar, eCallN, eGet, toKey, form_of_cell_eq ns hc, htb _ hc, times_eq ns _ _ hm, plus_eq]
theorem put_in_eq (ns : List Int) (a : Int) {φ : Str → Int} {tb : List (Key × U)} {tf : Str → Int × (Str → Int)} (htb : ∀ c ∈ C8, (kget tb (.inr c)).getD (E 0 (dl c)) = E (tf c).1 (tf c).2) (hφ : ∀ c ∈ C8, Sml (φ c)) (k : Nat) :
    mf_put_in ns [E a φ, .dct tb] k = some (E (a + sm fun c => φ c * (tf c).1) (fun x => sm fun c => φ c * (tf c).2 x), k) := by
  have hts : ∀ p ∈ nf φ, p.1 ∈ C8 ∧ Sml p.2 := fun p hp => by
    obtain ⟨c, hc, rfl⟩ := List.mem_map.mp hp
    have := (List.mem_filter.mp hc).1
    exact ⟨this, hφ c this⟩
  obtain ⟨y5, y6, hl⟩ := loop_put ns (E a φ) (.int a) (.tup (encT (nf φ))) htb k (nf φ) a (fun _ => 0) none none hts
  rw [sum_nf φ fun c => (tf c).1] at hl
  have e : E (a + sm fun c => φ c * (tf c).1) (fun x => 0 + ((nf φ).map fun p => p.2 * (tf p.1).2 x).sum) = E (a + sm fun c => φ c * (tf c).1) (fun x => sm fun c => φ c * (tf c).2 x) := E_ext rfl fun x _ => by rw [sum_nf φ fun c => (tf c).2 x]; omega
  rw [e, ← E_zero a] at hl
  have s1 : sAsgG (gTp 2 (gsCons (gNm 2) (gsCons (gNm 3) gsNil))) (eVar 0) [some (E a φ), some (.dct tb), none, none, none, none, none] k = some (.nx [some (E a φ), some (.dct tb), some (.int a), some (.tup (encT (nf φ))), none, none, none], k) := by
    simp [sAsgG, eVar, E, gTp, itemsT, gsCons, gNm, gsNil]
  have s2 : sAsg 4 (eTup (aCons (eVar 2) (aCons (eTup aNil) aNil))) [some (E a φ), some (.dct tb), some (.int a), some (.tup (encT (nf φ))), none, none, none] k = some (.nx [some (E a φ), some (.dct tb), some (.int a), some (.tup (encT (nf φ))), some (.tup [.int a, .tup []]), none, none], k) := by
    simp [sAsg, eTup, aCons, aNil, eVar]
  refine runM_rt (k' := k) ?_
  show m_put_in ns [some (E a φ), some (.dct tb), none, none, none, none, none] k = _
  unfold m_put_in
  rw [sSeq_nx s1, sSeq_nx s2, sSeq_nx (show sFor _ _ _ _ _ = _ from by
    simp only [sFor, aItems, eVar, List.getElem?_cons_succ, List.getElem?_cons_zero, Option.bind_some, itemsU]
    exact hl)]
  simp [sRet, eVar]
end Cm
set_option linter.all false
set_option Elab.async false
set_option maxRecDepth 100000
set_option maxHeartbeats 1000000
namespace Cm
open PySem L2 UM
inductive Tp : Nat → U → Prop
  | non (n : Nat) : Tp n .non
  | bl (n : Nat) (b : Bool) : Tp n (.bl b)
  | int (n : Nat) (i : Int) : Tp n (.int i)
  | str (n : Nat) {x : Str} (h : PyData.strOk x = true) : Tp n (.str x)
  | tup {n : Nat} {us : List U} (h : ∀ u ∈ us, Tp n u) (hl : us.length ≤ 900) : Tp (n + 1) (.tup us)
theorem ret_run {a : EM} {env : En} {k k1 : Nat} {u : U} (h : a env k = some (u, k1)) : sRet a env k = some (.rt u, k1) := by
  simp [sRet, h]
end Cm
set_option linter.all false
set_option Elab.async false
set_option maxRecDepth 100000
set_option maxHeartbeats 1000000
namespace Cm
open PySem L2 UM
inductive An (b : Nat) : Nat → U → Prop
  | non (n : Nat) : An b n .non
  | bl (n : Nat) (x : Bool) : An b n (.bl x)
  | int (n : Nat) (i : Int) : An b n (.int i)
  | str (n : Nat) {x : Str} (h : x.length ≤ 900) : An b n (.str x)
  | tup {n : Nat} {us : List U} (h : ∀ u ∈ us, An b n u) (hl : us.length ≤ b) : An b (n + 1) (.tup us)
  | lst (n : Nat) (us : List U) : An b n (.lst us)
theorem An.ty {b n : Nat} {u : U} (h : An b n u) : ∃ t, tyU u = some t := by
  cases h <;> exact ⟨_, rfl⟩
theorem An.up {b n : Nat} {u : U} (h : An b n u) : ∀ {c m : Nat}, b ≤ c → n ≤ m → An c m u := by
  induction h with
  | non n => intro c m _ _; exact .non m
  | bl n b => intro c m _ _; exact .bl m b
  | int n b => intro c m _ _; exact .int m b
  | str n h => intro c m _ _; exact .str m h
  | lst n us => intro c m _ _; exact .lst m us
  | @tup n us h hl ih =>
    intro c m hc hm
    cases m with
    | zero => omega
    | succ m => exact .tup (fun u hu => ih u hu hc (by omega)) (by omega)
section
variable (ns : List Int) {b n : Nat} {u : U} (k : Nat)
end
end Cm
set_option linter.all false
set_option Elab.async false
set_option maxRecDepth 100000
set_option maxHeartbeats 1000000
namespace Cm
open PySem L2 UM
end Cm
set_option linter.all false
set_option Elab.async false
set_option maxRecDepth 100000
set_option maxHeartbeats 1000000
namespace Cm
open PySem L2 UM
theorem fNe_i (a : Int) : fNe (.int a) (.int a) = some (.bl false) := by rw [fNe_int]; simp
theorem sm_add (φ ψ : Str → Int) : (sm fun c => φ c + ψ c) = sm φ + sm ψ := sum_add φ ψ C8
theorem sm_mul (φ : Str → Int) (m : Int) : (sm fun c => φ c * m) = sm φ * m := sum_mul φ m C8
theorem sm_one {φ : Str → Int} {x : Str} (hx : x ∈ C8) : (sm fun c => φ c * dl c x) = φ x := by
  have h := sum_one (φ x) x c8_nodup
  rw [if_pos hx] at h
  rw [← h]
  refine sm_ext fun c _ => ?_
  unfold dl
  by_cases e : x = c
  · subst e; simp
  · rw [if_neg e, if_neg (Ne.symm e)]; simp
theorem sm_one' {φ : Str → Int} {x : Str} (hx : x ∈ C8) : (sm fun c => dl x c * φ c) = φ x := by
  rw [← sm_one (φ := φ) hx]
  refine sm_ext fun c _ => ?_
  unfold dl
  rw [Int.mul_comm]
  by_cases e : x = c
  · subst e; rfl
  · rw [if_neg e, if_neg (Ne.symm e)]
theorem sm_swap (f : Str → Str → Int) : (sm fun a => sm fun b => f a b) = sm fun b => sm fun a => f a b := sum_swap f C8 C8
end Cm
set_option linter.all false
set_option Elab.async false
set_option maxRecDepth 100000
set_option maxHeartbeats 1000000
namespace Cm
open PySem L2 UM
inductive Pn : Nat → U → Prop
  | non (n : Nat) : Pn n .non
  | int (n : Nat) (i : Int) : Pn n (.int i)
  | str (n : Nat) {x : Str} (h : PyData.strOk x = true) : Pn n (.str x)
  | tup {n : Nat} {us : List U} (h : ∀ u ∈ us, Pn n u) : Pn (n + 1) (.tup us)
  | lst {n : Nat} {us : List U} (h : ∀ u ∈ us, Pn n u) : Pn (n + 1) (.lst us)
theorem Pn.pl {n : Nat} {u : U} (h : Pn n u) : Pl n u := by
  induction h with
  | non n => exact .non n
  | int n i => exact .int n i
  | str n h => exact .str n h
  | tup h ih => exact .tup ih
  | lst h ih => exact .lst ih
theorem Pn.up {n : Nat} {u : U} (h : Pn n u) : ∀ {m : Nat}, n ≤ m → Pn m u := by
  induction h with
  | non n => intro m _; exact .non m
  | int n b => intro m _; exact .int m b
  | str n h => intro m _; exact .str m h
  | @tup n us h ih =>
    intro m hm
    cases m with
    | zero => omega
    | succ m => exact .tup fun u hu => ih u hu (by omega)
  | @lst n us h ih =>
    intro m hm
    cases m with
    | zero => omega
    | succ m => exact .lst fun u hu => ih u hu (by omega)
theorem eqvAll_iff : ∀ {us ws : List U}, (∀ u ∈ us, ∀ w ∈ ws, (PyData.eqv (toD u) (toD w) = true ↔ u = w)) → (PyData.eqvAll (toDs us) (toDs ws) = true ↔ us = ws)
  | [], [], _ => by simp [toDs, PyData.eqvAll]
  | [], _ :: _, _ => by simp [toDs, PyData.eqvAll]
  | _ :: _, [], _ => by simp [toDs, PyData.eqvAll]
  | u :: us, w :: ws, h => by
    have ih := eqvAll_iff (us := us) (ws := ws) fun x hx y hy => h x (List.mem_cons_of_mem _ hx) y (List.mem_cons_of_mem _ hy)
    simp only [toDs, PyData.eqvAll, Bool.and_eq_true, ih, h u List.mem_cons_self w List.mem_cons_self, List.cons.injEq]
theorem eqv_iff {n : Nat} {u : U} (h : Pn n u) : ∀ {m : Nat} {w : U}, Pn m w → (PyData.eqv (toD u) (toD w) = true ↔ u = w) := by
  induction h with
  | non n => intro m w hw; cases hw <;> simp [toD, PyData.eqv]
  | int n i => intro m w hw; cases hw <;> simp [toD, PyData.eqv]
  | str n h => intro m w hw; cases hw <;> simp [toD, PyData.eqv]
  | @tup n us h ih =>
    intro m w hw
    cases hw with
    | @tup m ws h2 => 
      have := eqvAll_iff (us := us) (ws := ws) fun u hu x hx => ih u hu (h2 x hx)
      simp only [toD, PyData.eqv, this, U.tup.injEq]
    | _ => simp [toD, PyData.eqv]
  | @lst n us h ih =>
    intro m w hw
    cases hw with
    | @lst m ws h2 => 
      have := eqvAll_iff (us := us) (ws := ws) fun u hu x hx => ih u hu (h2 x hx)
      simp only [toD, PyData.eqv, this, U.lst.injEq]
    | _ => simp [toD, PyData.eqv]
noncomputable def eqb (u w : U) : Bool := @decide (u = w) (Classical.propDecidable _)
theorem eqb_iff {u w : U} : eqb u w = true ↔ u = w := by unfold eqb; exact @decide_eq_true_iff _ (Classical.propDecidable _)
theorem eqb_t {u w : U} (h : u = w) : eqb u w = true := eqb_iff.mpr h
theorem eqb_f {u w : U} (h : u ≠ w) : eqb u w = false := by
  cases e : eqb u w with
  | true => exact absurd (eqb_iff.mp e) h
  | false => rfl
theorem eqb_of {u w : U} {b : Bool} (h : b = true ↔ u = w) : eqb u w = b := by
  cases b with
  | true => exact eqb_t (h.mp rfl)
  | false => exact eqb_f fun e => by simpa using h.mpr e
theorem fEq_eqb {n m : Nat} {u w : U} (h : Pn n u) (h2 : Pn m w) (hn : n ≤ 64 := by decide) (hm : m ≤ 64 := by decide) : fEq u w = some (.bl (eqb u w)) := by
  have e : PyData.eqv (toD u) (toD w) = eqb u w := (eqb_of (eqv_iff h h2)).symm
  unfold fEq
  rw [if_pos ⟨h.pl.shaped hn, h2.pl.shaped hm⟩, e]
theorem fNe_eqb {n m : Nat} {u w : U} (h : Pn n u) (h2 : Pn m w) (hn : n ≤ 64 := by decide) (hm : m ≤ 64 := by decide) : fNe u w = some (.bl (!eqb u w)) := by
  have e : PyData.eqv (toD u) (toD w) = eqb u w := (eqb_of (eqv_iff h h2)).symm
  unfold fNe
  rw [if_pos ⟨h.pl.shaped hn, h2.pl.shaped hm⟩, e]
theorem fNe_same {n : Nat} {u : U} (h : Pn n u) (hn : n ≤ 64 := by decide) : fNe u u = some (.bl false) := fNe_self h.pl hn
theorem encT_pn {ts : List (Str × Int)} (h : ∀ p ∈ ts, PyData.strOk p.1 = true) : ∀ u ∈ encT ts, Pn 1 u := fun u hu => by
  obtain ⟨p, hp, rfl⟩ := List.mem_map.mp hu
  refine .tup fun w hw => ?_
  rcases List.mem_cons.mp hw with rfl | hw
  · exact .str _ (h p hp)
  · rcases List.mem_cons.mp hw with rfl | hw
    · exact .int _ _
    · cases hw
theorem nf_ok (φ : Str → Int) : ∀ p ∈ nf φ, PyData.strOk p.1 = true := fun p hp => c8_ok _ (nf_sub φ _ (List.mem_map_of_mem hp))
theorem E_pn (a : Int) (φ : Str → Int) : Pn 3 (E a φ) := .tup fun w hw => by
  rcases List.mem_cons.mp hw with rfl | hw
  · exact .int _ _
  · rcases List.mem_cons.mp hw with rfl | hw
    · exact .tup (encT_pn (nf_ok φ))
    · cases hw
theorem St_pn (φ : Str → Int) : Pn 2 (St φ) := .tup (encT_pn (nf_ok φ))
theorem strs_pn {l : List Str} (h : ∀ c ∈ l, PyData.strOk c = true) : Pn 1 (strT l) := .tup fun w hw => by
  obtain ⟨c, hc, rfl⟩ := List.mem_map.mp hw
  exact .str _ (h c hc)
theorem nf_inj {φ ψ : Str → Int} (h : nf φ = nf ψ) : ∀ c ∈ C8, φ c = ψ c := fun c hc => by
  rw [← co_nf (φ := φ) hc, ← co_nf (φ := ψ) hc, h]
theorem encT_inj : ∀ {a b : List (Str × Int)}, encT a = encT b → a = b
  | [], [], _ => rfl
  | [], _ :: _, h => by cases h
  | _ :: _, [], h => by cases h
  | p :: a, q :: b, h => by
    have h : U.tup [.str p.1, .int p.2] :: encT a = U.tup [.str q.1, .int q.2] :: encT b := h
    injection h with h1 h2
    injection h1 with h1
    injection h1 with h3 h4
    injection h4 with h4 _
    rw [encT_inj h2, show p = q from Prod.ext (U.str.inj h3) (U.int.inj h4)]
theorem E_inj {a b : Int} {φ ψ : Str → Int} (h : E a φ = E b ψ) : a = b ∧ ∀ c ∈ C8, φ c = ψ c := by
  unfold E at h
  injection h with h
  injection h with h1 h2
  injection h2 with h2 _
  injection h2 with h2
  exact ⟨U.int.inj h1, nf_inj (encT_inj h2)⟩
end Cm
set_option linter.all false
set_option Elab.async false
set_option maxRecDepth 100000
set_option maxHeartbeats 1000000
namespace Cm
open PySem L2 UM
section
variable {ns : List Int} {a b c d : EM} {ms : AM} {ma mb : BM} {s1 s2 : SM} {env env' : En} {k k1 k2 k3 k4 k5 : Nat} {u v w x r : U} {us ws rs : List U} {i : Int} {g : GM} {t : BM} {vs : List Nat} {src : AM}
theorem call4_run {f : List U → Nat → Option (U × Nat)} (h1 : a env k = some (u, k1)) (h2 : b env k1 = some (v, k2)) (h3 : c env k2 = some (w, k3)) (h4 : d env k3 = some (x, k4)) (hf : f [u, v, w, x] k4 = some (r, k5)) : eCallN 4 f (aCons a (aCons b (aCons c (aCons d aNil)))) env k = some (r, k5) := by
  simp only [eCallN, aCons, aNil, h1, h2, h3, h4, Option.bind_some]
  exact hf
theorem anil_run : aNil env k = some ([], k) := rfl
theorem acons_run (h1 : a env k = some (u, k1)) (h2 : ms env k1 = some (us, k2)) : aCons a ms env k = some (u :: us, k2) := by
  simp only [aCons, h1, h2, Option.bind_some]
theorem tupN_run (h : ms env k = some (us, k1)) (hl : us.length ≤ 1000) : eTup ms env k = some (.tup us, k1) := by
  simp only [eTup, h, Option.bind_some]
  rw [if_pos hl]
theorem lstN_run (h : ms env k = some (us, k1)) (hl : us.length ≤ 1000) : eLst ms env k = some (.lst us, k1) := by
  simp only [eLst, h, Option.bind_some]
  rw [if_pos hl]
theorem tup0_run : eTup aNil env k = some (.tup [], k) := rfl
theorem lst0_run : eLst aNil env k = some (.lst [], k) := rfl
theorem tup1_run (h1 : a env k = some (u, k1)) : eTup (aCons a aNil) env k = some (.tup [u], k1) := tupN_run (acons_run h1 anil_run) (by simp)
theorem tup2_run (h1 : a env k = some (u, k1)) (h2 : b env k1 = some (v, k2)) : eTup (aCons a (aCons b aNil)) env k = some (.tup [u, v], k2) := tupN_run (acons_run h1 (acons_run h2 anil_run)) (by simp)
theorem tup3_run (h1 : a env k = some (u, k1)) (h2 : b env k1 = some (v, k2)) (h3 : c env k2 = some (w, k3)) : eTup (aCons a (aCons b (aCons c aNil))) env k = some (.tup [u, v, w], k3) := tupN_run (acons_run h1 (acons_run h2 (acons_run h3 anil_run))) (by simp)
theorem lst1_run (h1 : a env k = some (u, k1)) : eLst (aCons a aNil) env k = some (.lst [u], k1) := lstN_run (acons_run h1 anil_run) (by simp)
theorem lst2_run (h1 : a env k = some (u, k1)) (h2 : b env k1 = some (v, k2)) : eLst (aCons a (aCons b aNil)) env k = some (.lst [u, v], k2) := lstN_run (acons_run h1 (acons_run h2 anil_run)) (by simp)
theorem tupG_run {e : EM} (h1 : src env k = some (us, k1)) (h2 : genL g t e (wipeE env vs) k1 us = some rs) (hl : rs.length ≤ 1000) : eTupG src vs g t e env k = some (.tup rs, k1) := by
  simp only [eTupG, h1, h2, Option.bind_some]
  rw [if_pos hl]
theorem lcE_run {e : EM} (h1 : src env k = some (us, k1)) (h2 : lcL g t e (wipeE env vs) us k1 = some (rs, k2)) (hl : rs.length ≤ 1000) : eLc src vs g t e env k = some (.lst rs, k2) := lc_run h1 h2 hl
theorem fn2_run {f : List U → Option U} (h1 : a env k = some (u, k1)) (h2 : b env k1 = some (v, k2)) (hf : f [u, v] = some r) : eFn f (aCons a (aCons b aNil)) env k = some (r, k2) := by
  simp only [eFn, aCons, aNil, h1, h2, hf, Option.bind_some]
theorem imm_run (h : a env k = some (u, k1)) (hi : imm u = true) : eImm a env k = some (u, k1) := by
  simp only [eImm, h, Option.bind_some]
  rw [if_pos hi]
theorem asgE {j : Nat} {env' : En} (h1 : a env k = some (u, k1)) (he : env.set j (some u) = env') : sAsg j a env k = some (.nx env', k1) := by
  rw [asg_run h1, he]
theorem asgG_run {g : GM} {env' : En} (h1 : a env k = some (u, k1)) (hg : g u env = some env') : sAsgG g a env k = some (.nx env', k1) := by
  simp only [sAsgG, h1, hg, Option.bind_some]
theorem drop_run (h1 : a env k = some (u, k1)) : sDrop a env k = some (.nx env, k1) := by
  simp only [sDrop, h1, Option.bind_some]
theorem dput_run {j : Nat} {kvs : List (Key × U)} {key : Key} {env' : En} (h1 : b env k = some (v, k1)) (h2 : a env k1 = some (u, k2)) (hj : env[j]? = some (some (.dct kvs))) (hk : toKey u = some key) (hl : kvs.length < 1000) (he : env.set j (some (.dct (kput kvs key v))) = env') : sDput j a b env k = some (.nx env', k2) := by
  simp only [sDput, h1, h2, hj, hk, Option.bind_some]
  rw [if_pos hl, he]
theorem forS_run {src : AM} {g : GM} {env' : En} (h1 : src env k = some (us, k1)) (h2 : forL g s1 us env k1 = some (.nx env', k2)) : sFor src g s1 env k = some (.nx env', k2) := for_run h1 h2
theorem skip_run : sSkip env k = some (.nx env, k) := rfl
theorem c_run : eC u env k = some (u, k) := rfl
theorem var_run {j : Nat} (h : env[j]? = some (some u)) : eVar j env k = some (u, k) := by
  unfold eVar
  rw [h]
theorem no_run : oNo env k = some (none, k) := rfl
theorem yes_run {n : Int} (h : a env k = some (.int n, k1)) : oYes a env k = some (some n, k1) := by
  simp only [oYes, h, Option.bind_some]
theorem sl_run {l h : OM} {y z : Option Int} (h1 : a env k = some (u, k1)) (h2 : l env k1 = some (y, k2)) (h3 : h env k2 = some (z, k3)) (hf : fSl u y z = some r) : eSl a l h env k = some (r, k3) := by
  simp only [eSl, h1, h2, h3, hf, Option.bind_some]
theorem idx_run (h1 : a env k = some (u, k1)) (h2 : b env k1 = some (v, k2)) (hf : fIdx u v = some r) : eIdx ns a b env k = some (r, k2) := by
  cases u with
  | scr => simp [fIdx] at hf
  | _ => simp only [eIdx, h1, h2, hf, Option.bind_some]
end
theorem not_f {ma : BM} {env : En} {k k1 : Nat} (h : ma env k = some (true, k1)) : bNot ma env k = some (false, k1) := not_run h
theorem not_t {ma : BM} {env : En} {k k1 : Nat} (h : ma env k = some (false, k1)) : bNot ma env k = some (true, k1) := not_run h
theorem set0 {x y : Option U} {xs : En} : (x :: xs).set 0 y = y :: xs := rfl
theorem setS {x y : Option U} {xs zs : En} {n : Nat} (h : xs.set n y = zs) : (x :: xs).set (n + 1) y = x :: zs := by
  rw [List.set_cons_succ, h]
theorem parN {a b : EM} {env env1 env' : En} {k k1 k2 : Nat} {u v : U} {j l : Nat} (h1 : a env k = some (u, k1)) (h2 : b env k1 = some (v, k2)) (he1 : env.set j (some u) = env1) (he : env1.set l (some v) = env') : sPar j l (aCons a (aCons b aNil)) env k = some (.nx env', k2) := by
  rw [par_run h1 h2, he1, he]
theorem gNm_run {i : Nat} {u : U} {env env' : En} (he : env.set i (some u) = env') : gNm i u env = some env' := by
  unfold gNm
  rw [he]
theorem gTp2_run {g1 g2 : GM} {u v : U} {env env1 env' : En} (h1 : g1 u env = some env1) (h2 : g2 v env1 = some env') : gTp 2 (gsCons g1 (gsCons g2 gsNil)) (.tup [u, v]) env = some env' := by
  simp only [gTp, itemsT, gsCons, gsNil, Option.bind_some, List.length_cons, List.length_nil, h1, h2, if_true]
theorem gTp3_run {g1 g2 g3 : GM} {u v w : U} {env env1 env2 env' : En} (h1 : g1 u env = some env1) (h2 : g2 v env1 = some env2) (h3 : g3 w env2 = some env') : gTp 3 (gsCons g1 (gsCons g2 (gsCons g3 gsNil))) (.tup [u, v, w]) env = some env' := by
  simp only [gTp, itemsT, gsCons, gsNil, Option.bind_some, List.length_cons, List.length_nil, h1, h2, h3, if_true]
theorem gTp3_encD {g1 g2 g3 : GM} {d : Dd} {env env1 env2 env' : En} (h1 : g1 (.str d.nm) env = some env1) (h2 : g2 (.int d.tk) env1 = some env2) (h3 : g3 (.tup (d.ps.map encP)) env2 = some env') : gTp 3 (gsCons g1 (gsCons g2 (gsCons g3 gsNil))) (encD d) env = some env' := gTp3_run h1 h2 h3
theorem fAdd_i (i j : Int) : fAdd (.int i) (.int j) = some (.int (i + j)) := rfl
theorem fSub_i (i j : Int) : fSub (.int i) (.int j) = some (.int (i - j)) := rfl
theorem fNeg_i (i : Int) : fNeg (.int i) = some (.int (-i)) := rfl
theorem fAdd_t {us ws : List U} (h : us.length + ws.length ≤ 1000) : fAdd (.tup us) (.tup ws) = some (.tup (us ++ ws)) := by
  simp only [fAdd]
  rw [if_pos h]
theorem items_t (us : List U) : itemsU (.tup us) = some us := rfl
theorem items_l (us : List U) : itemsU (.lst us) = some us := rfl
theorem itemsE_t (us : List U) : itemsE (.tup us) = some us := rfl
theorem fTuple_l (us : List U) : fTuple [.lst us] = some (.tup us) := rfl
theorem fTuple_t (us : List U) : fTuple [.tup us] = some (.tup us) := rfl
theorem fSl_from (us : List U) (n : Nat) : fSl (.tup us) (some (n : Int)) none = some (.tup (us.drop n)) := by
  have := slT_from (a := eC (.tup us)) (b := eC (.int n)) (env := []) (k := 0) (us := us) (n := n) rfl rfl
  simp only [eSl, eC, oNo, oYes, Option.bind_some] at this
  cases e : fSl (.tup us) (some (n : Int)) none with
  | none => rw [e] at this; cases this
  | some x => rw [e] at this; simpa using this
theorem fSl_fromI (us : List U) {v : Int} (h : 0 ≤ v) : fSl (.tup us) (some v) none = some (.tup (us.drop v.toNat)) := by
  have := fSl_from us v.toNat
  rwa [Int.toNat_of_nonneg h] at this
theorem tru_b (ns : List Int) (b : Bool) : truU ns (.bl b) = some b := rfl
end Cm
set_option linter.all false
set_option Elab.async false
set_option maxRecDepth 100000
set_option maxHeartbeats 1000000
namespace Cm
open PySem L2 UM
section
variable {α : Type}
theorem kget_cons (kv : Key × α) (r : List (Key × α)) (k : Key) : kget (kv :: r) k = if kv.1 = k then some kv.2 else kget r k := by
  unfold kget
  rw [List.find?_cons]
  by_cases h : kv.1 = k
  · simp [h]
  · simp [h]
theorem kget_none {kvs : List (Key × α)} {k : Key} (h : k ∉ kvs.map (·.1)) : kget kvs k = none := by
  unfold kget
  rw [List.find?_eq_none.mpr]
  · rfl
  · intro kv hkv
    simp only [decide_eq_true_eq]
    exact fun e => h (e ▸ List.mem_map_of_mem hkv)
theorem kget_put_map (k k' : Key) (v : α) : ∀ (kvs : List (Key × α)), k ∈ kvs.map (·.1) → kget (kvs.map fun kv => if kv.1 = k then (kv.1, v) else kv) k' = if k' = k then some v else kget kvs k'
  | [], h => by simp at h
  | kv :: r, h => by
    rw [List.map_cons, kget_cons, kget_cons]
    by_cases h1 : kv.1 = k
    · rw [if_pos h1]
      by_cases h2 : k' = k
      · subst h2
        rw [if_pos h1, if_pos rfl]
      · have h3 : ¬ kv.1 = k' := fun z => h2 (z.symm.trans h1)
        rw [if_neg h3, if_neg h2, if_neg h3]
        by_cases hr : k ∈ r.map (·.1)
        · rw [kget_put_map k k' v r hr, if_neg h2]
        · have e : (r.map fun kv => if kv.1 = k then (kv.1, v) else kv) = r := by
            calc (r.map fun kv => if kv.1 = k then (kv.1, v) else kv) = r.map id := List.map_congr_left fun x hx => if_neg fun z => hr (by rw [← z]; exact List.mem_map_of_mem hx)
              _ = r := List.map_id _
          rw [e]
    · rw [if_neg h1]
      have hr : k ∈ r.map (·.1) := by
        rcases List.mem_cons.mp (show k ∈ kv.1 :: r.map (·.1) from h) with z | z
        · exact absurd z.symm h1
        · exact z
      by_cases h2 : kv.1 = k'
      · have h3 : ¬ k' = k := fun z => h1 (h2.trans z)
        rw [if_pos h2, if_neg h3, if_pos h2]
      · rw [if_neg h2, if_neg h2]
        exact kget_put_map k k' v r hr
theorem kget_append (a b : List (Key × α)) (k : Key) : kget (a ++ b) k = (kget a k).or (kget b k) := by
  unfold kget
  rw [List.find?_append]
  cases a.find? fun kv => decide (kv.1 = k) <;> rfl
theorem any_key (kvs : List (Key × α)) (k : Key) : (kvs.any fun kv => decide (kv.1 = k)) = true ↔ k ∈ kvs.map (·.1) := by
  rw [List.any_eq_true, List.mem_map]
  exact ⟨fun ⟨x, h1, h2⟩ => ⟨x, h1, by simpa using h2⟩, fun ⟨x, h1, h2⟩ => ⟨x, h1, by simpa using h2⟩⟩
theorem kput_in {kvs : List (Key × α)} {k : Key} {v : α} (h : k ∈ kvs.map (·.1)) : kput kvs k v = kvs.map fun kv => if kv.1 = k then (kv.1, v) else kv := by
  unfold kput
  rw [(any_key kvs k).mpr h]
  rfl
theorem kput_keys_in {kvs : List (Key × α)} {k : Key} {v : α} (h : k ∈ kvs.map (·.1)) : (kput kvs k v).map (·.1) = kvs.map (·.1) := by
  rw [kput_in h, List.map_map]
  refine List.map_congr_left fun kv _ => ?_
  simp only [Function.comp_apply]
  split <;> rfl
theorem kput_keys_out {kvs : List (Key × α)} {k : Key} {v : α} (h : k ∉ kvs.map (·.1)) : (kput kvs k v).map (·.1) = kvs.map (·.1) ++ [k] := by
  rw [kput_new h]
  simp
theorem kget_put (kvs : List (Key × α)) (k k' : Key) (v : α) : kget (kput kvs k v) k' = if k' = k then some v else kget kvs k' := by
  by_cases h : k ∈ kvs.map (·.1)
  · rw [kput_in h, kget_put_map k k' v kvs h]
  · rw [kput_new h, kget_append, kget_cons]
    by_cases e : k' = k
    · subst e
      rw [kget_none h, if_pos rfl, if_pos rfl]
      rfl
    · rw [if_neg e, if_neg (Ne.symm e)]
      cases kget kvs k' <;> rfl
end
abbrev Fm := Int × (Str → Int)
def EF (f : Fm) : U := E f.1 f.2
def ida (c : Str) : Fm := (0, dl c)
def cmpF (f : Fm) (tf : Str → Fm) : Fm := (f.1 + sm fun c => f.2 c * (tf c).1, fun x => sm fun c => f.2 c * (tf c).2 x)
def vl (f : Fm) (φ : Str → Int) : Int := f.1 + sm fun c => f.2 c * φ c
theorem vl_ext (f : Fm) {φ ψ : Str → Int} (h : ∀ c ∈ C8, φ c = ψ c) : vl f φ = vl f ψ := by
  unfold vl
  rw [sm_ext fun c hc => by rw [h c hc]]
theorem vl_ida {c : Str} (hc : c ∈ C8) (φ : Str → Int) : vl (ida c) φ = φ c := by
  unfold vl ida
  rw [sm_one' hc]
  omega
theorem sm_mulL (φ : Str → Int) (m : Int) : (sm fun c => m * φ c) = m * sm φ := by
  rw [Int.mul_comm, ← sm_mul]
  exact sm_ext fun c _ => Int.mul_comm _ _
theorem vl_cmp (f : Fm) (tf : Str → Fm) (φ : Str → Int) : vl (cmpF f tf) φ = vl f fun c => vl (tf c) φ := by
  unfold vl cmpF
  dsimp only
  have h1 : (sm fun c => (sm fun x => f.2 x * (tf x).2 c) * φ c) = sm fun x => f.2 x * sm fun c => (tf x).2 c * φ c := by
    have : ∀ c ∈ C8, (sm fun x => f.2 x * (tf x).2 c) * φ c = sm fun x => f.2 x * ((tf x).2 c * φ c) := fun c _ => by
      rw [← sm_mul]
      exact sm_ext fun x _ => Int.mul_assoc _ _ _
    rw [sm_ext this, sm_swap]
    exact sm_ext fun x _ => sm_mulL _ _
  have h2 : (sm fun c => f.2 c * ((tf c).1 + sm fun x => (tf c).2 x * φ x)) = (sm fun c => f.2 c * (tf c).1) + sm fun c => f.2 c * sm fun x => (tf c).2 x * φ x := by
    rw [← sm_add]
    exact sm_ext fun c _ => Int.mul_add _ _ _
  rw [h1, h2]
  omega
theorem fm_ext {f g : Fm} (h : ∀ φ, vl f φ = vl g φ) : f.1 = g.1 ∧ ∀ x ∈ C8, f.2 x = g.2 x := by
  have h0 := h fun _ => 0
  unfold vl at h0
  rw [sm_ext (ψ := fun _ => 0) fun c _ => Int.mul_zero _, sm_ext (φ := fun c => g.2 c * 0) (ψ := fun _ => 0) fun c _ => Int.mul_zero _] at h0
  have e : f.1 = g.1 := by omega
  refine ⟨e, fun x hx => ?_⟩
  have h1 := h (fun c => dl c x)
  unfold vl at h1
  rw [sm_one hx, sm_one hx] at h1
  omega
theorem EF_ext {f g : Fm} (h : ∀ φ, vl f φ = vl g φ) : EF f = EF g := by
  obtain ⟨h1, h2⟩ := fm_ext h
  exact E_ext h1 h2
theorem EF_inj {f g : Fm} (h : EF f = EF g) (φ : Str → Int) : vl f φ = vl g φ := by
  obtain ⟨h1, h2⟩ := E_inj h
  unfold vl
  rw [h1, sm_ext fun c hc => by rw [h2 c hc]]
def stT (tf : Str → Fm) (d : Dd) (c : Str) : Fm := match d.ps.find? fun p => decide (p.1 = c) with
  | some p => cmpF p.2 tf
  | none => tf c
def TFs : List Dd → (Str → Fm) → (Str → Fm)
  | [], tf => tf
  | d :: R, tf => TFs R (stT tf d)
def TF (R : List Dd) : Str → Fm := TFs R ida
theorem find_part {ps : List Part} {c : Str} (hn : (ps.map (·.1)).Nodup) {p : Part} (h : p ∈ ps) (e : p.1 = c) : (ps.find? fun p => decide (p.1 = c)) = some p := by
  induction ps with
  | nil => cases h
  | cons q ps ih =>
    obtain ⟨h1, h2⟩ := List.nodup_cons.mp (show (q.1 :: ps.map (·.1)).Nodup from hn)
    rw [List.find?_cons]
    by_cases eq : q.1 = c
    · rcases List.mem_cons.mp h with rfl | h
      · simp [eq]
      · exact absurd (by rw [eq, ← e]; exact List.mem_map_of_mem h) h1
    · rcases List.mem_cons.mp h with rfl | h
      · exact absurd e eq
      · simp only [eq, decide_false]
        exact ih h2 h
theorem find_no {ps : List Part} {c : Str} (h : c ∉ ps.map (·.1)) : (ps.find? fun p => decide (p.1 = c)) = none := by
  rw [List.find?_eq_none]
  intro p hp
  simp only [decide_eq_true_eq]
  exact fun e => h (e ▸ List.mem_map_of_mem hp)
theorem stT_in {tf : Str → Fm} {d : Dd} (hn : (WR d).Nodup) {p : Part} (h : p ∈ d.ps) : stT tf d p.1 = cmpF p.2 tf := by
  unfold stT
  rw [find_part hn h rfl]
theorem stT_out {tf : Str → Fm} {d : Dd} {c : Str} (h : c ∉ WR d) : stT tf d c = tf c := by
  unfold stT
  rw [find_no h]
theorem vl_stT {tf : Str → Fm} {d : Dd} (hn : (WR d).Nodup) (φ : Str → Int) (c : Str) : vl (stT tf d c) φ = dn d (fun c => vl (tf c) φ) c := by
  by_cases h : c ∈ WR d
  · obtain ⟨p, hp, rfl⟩ := List.mem_map.mp h
    rw [stT_in hn hp, vl_cmp, dn_in hn hp]
    rfl
  · rw [stT_out h, dn_out h]
theorem dn_ext {φ ψ : Str → Int} (d : Dd) (h : ∀ c ∈ C8, φ c = ψ c) : ∀ c ∈ C8, dn d φ c = dn d ψ c := wd_ext d.ps h
theorem rn_ext : ∀ (R : List Dd) {φ ψ : Str → Int}, (∀ c ∈ C8, φ c = ψ c) → ∀ c ∈ C8, rn R φ c = rn R ψ c
  | [], _, _, h => h
  | d :: R, _, _, h => rn_ext R (dn_ext d h)
theorem vl_TFs : ∀ (R : List Dd) (tf : Str → Fm), (∀ d ∈ R, (WR d).Nodup) → ∀ φ c, vl (TFs R tf c) φ = rn R (fun c => vl (tf c) φ) c
  | [], _, _, _, _ => rfl
  | d :: R, tf, h, φ, c => by
    show vl (TFs R (stT tf d) c) φ = rn R (dn d fun c => vl (tf c) φ) c
    rw [vl_TFs R _ (fun x hx => h x (List.mem_cons_of_mem _ hx)), show (fun c => vl (stT tf d c) φ) = dn d fun c => vl (tf c) φ from funext fun c => vl_stT (h d List.mem_cons_self) φ c]
theorem vl_TF {R : List Dd} (h : ∀ d ∈ R, (WR d).Nodup) (φ : Str → Int) {c : Str} (hc : c ∈ C8) : vl (TF R c) φ = rn R φ c := by
  unfold TF
  rw [vl_TFs R _ h]
  exact rn_ext R (fun c hc => vl_ida hc φ) c hc
theorem EF_TF {R : List Dd} (h : ∀ d ∈ R, (WR d).Nodup) {f : Fm} {c : Str} (hc : c ∈ C8) (e : ∀ φ, vl f φ = rn R φ c) : EF (TF R c) = EF f := EF_ext fun φ => by rw [vl_TF h φ hc, e]
theorem TFs_append : ∀ (R S : List Dd) (tf : Str → Fm), TFs (R ++ S) tf = TFs S (TFs R tf)
  | [], _, _ => rfl
  | d :: R, S, tf => TFs_append R S (stT tf d)
def ab (i : Int) : Int := if i < 0 then -i else i
theorem ab_nn (i : Int) : 0 ≤ ab i := by unfold ab; split <;> omega
theorem ab_mul (i j : Int) : ab (i * j) = ab i * ab j := by
  unfold ab
  by_cases h1 : i < 0
  · by_cases h2 : j < 0
    · have : 0 < i * j := Int.mul_pos_of_neg_of_neg h1 h2
      rw [if_neg (by omega), if_pos h1, if_pos h2, Int.neg_mul_neg]
    · rw [if_pos h1, if_neg h2]
      by_cases h3 : j = 0
      · subst h3; simp
      · have : i * j < 0 := Int.mul_neg_of_neg_of_pos h1 (by omega)
        rw [if_pos this, Int.neg_mul]
  · by_cases h2 : j < 0
    · rw [if_neg h1, if_pos h2]
      by_cases h3 : i = 0
      · subst h3; simp
      · have : i * j < 0 := Int.mul_neg_of_pos_of_neg (by omega) h2
        rw [if_pos this, Int.mul_neg]
    · have : 0 ≤ i * j := Int.mul_nonneg (by omega) (by omega)
      rw [if_neg (by omega), if_neg h1, if_neg h2]
theorem ab_add (i j : Int) : ab (i + j) ≤ ab i + ab j := by unfold ab; split <;> split <;> split <;> omega
theorem ab_sum {α : Type} (f g : α → Int) : ∀ {l : List α}, (∀ c ∈ l, ab (f c) ≤ g c) → ab (l.map f).sum ≤ (l.map g).sum
  | [], _ => by simp [ab]
  | c :: l, h => by
    have h1 := h c List.mem_cons_self
    have h2 := ab_sum f g (l := l) fun x hx => h x (List.mem_cons_of_mem _ hx)
    have h3 := ab_add (f c) (l.map f).sum
    simp only [List.map_cons, List.sum_cons]
    omega
theorem sm_le {f g : Str → Int} (h : ∀ c ∈ C8, f c ≤ g c) : sm f ≤ sm g := by
  unfold sm
  have : ∀ l : List Str, (∀ c ∈ l, f c ≤ g c) → (l.map f).sum ≤ (l.map g).sum := fun l => by
    induction l with
    | nil => intro _; simp
    | cons c l ih =>
      intro h
      have h1 := h c List.mem_cons_self
      have h2 := ih fun x hx => h x (List.mem_cons_of_mem _ hx)
      simp only [List.map_cons, List.sum_cons]
      omega
  exact this C8 h
def L1 (f : Fm) (m : Int) : Prop := (sm fun c => ab (f.2 c)) ≤ m
def CB (tf : Str → Fm) (B : Int) : Prop := ∀ c ∈ C8, ∀ x ∈ C8, ab ((tf c).2 x) ≤ B
def DL (d : Dd) (m : Int) : Prop := ∀ p ∈ d.ps, L1 p.2 m
theorem cmp_bound {f : Fm} {tf : Str → Fm} {m B : Int} (hf : L1 f m) (ht : CB tf B) (hB : 0 ≤ B) {x : Str} (hx : x ∈ C8) : ab ((cmpF f tf).2 x) ≤ m * B := by
  have h1 : ab (sm fun c => f.2 c * (tf c).2 x) ≤ sm fun c => ab (f.2 c) * B := ab_sum _ _ fun c hc => by
    rw [ab_mul]
    exact Int.mul_le_mul_of_nonneg_left (ht c hc x hx) (ab_nn _)
  rw [sm_mul] at h1
  exact Int.le_trans h1 (Int.mul_le_mul_of_nonneg_right hf hB)
theorem stT_bound {tf : Str → Fm} {d : Dd} {m B : Int} (hn : (WR d).Nodup) (hd : DL d m) (hm : 1 ≤ m) (ht : CB tf B) (hB : 0 ≤ B) : CB (stT tf d) (m * B) := fun c hc x hx => by
  by_cases h : c ∈ WR d
  · obtain ⟨p, hp, rfl⟩ := List.mem_map.mp h
    rw [stT_in hn hp]
    exact cmp_bound (hd p hp) ht hB hx
  · rw [stT_out h]
    have h1 := ht c hc x hx
    have h2 : 1 * B ≤ m * B := Int.mul_le_mul_of_nonneg_right hm hB
    omega
theorem ida_bound : CB ida 1 := fun c _ x _ => by
  show ab (dl c x) ≤ 1
  unfold dl ab
  split <;> decide
theorem TFs_bound {m : Int} (hm : 1 ≤ m) : ∀ (R : List Dd) {tf : Str → Fm} {B : Int}, (∀ d ∈ R, (WR d).Nodup ∧ DL d m) → CB tf B → 0 ≤ B → CB (TFs R tf) (m ^ R.length * B)
  | [], tf, B, _, h, _ => by simpa [TFs] using h
  | d :: R, tf, B, hR, h, hB => by
    obtain ⟨h1, h2⟩ := hR d List.mem_cons_self
    have h3 := TFs_bound hm R (tf := stT tf d) (B := m * B) (fun x hx => hR x (List.mem_cons_of_mem _ hx)) (stT_bound h1 h2 hm h hB) (Int.mul_nonneg (by omega) hB)
    rw [List.length_cons, Int.pow_succ, Int.mul_assoc]
    exact h3
theorem CB_sml {tf : Str → Fm} {B : Int} (h : CB tf B) (hB : B < 2 ^ 64) {c : Str} (hc : c ∈ C8) : ∀ x ∈ C8, Sml ((tf c).2 x) := fun x hx => by
  have h1 := h c hc x hx
  unfold ab at h1
  unfold Sml
  split at h1 <;> omega
theorem FOk_L1 {a : Int} {φ : Str → Int} (h : FOk a φ) : L1 (a, φ) 72 := by
  have : (sm fun c => ab (φ c)) ≤ sm fun _ => 9 := sm_le fun c hc => by
    have := h.2.2 c hc
    unfold ab
    split <;> omega
  exact this
structure Tab (kvs : List (Key × U)) (ks : List Str) (tf : Str → Fm) : Prop where
  key : kvs.map (·.1) = ks.map Sum.inr
  nd : ks.Nodup
  sub : ∀ c ∈ ks, c ∈ C8
  get : ∀ c ∈ ks, kget kvs (.inr c) = some (EF (tf c))
  out : ∀ c, c ∉ ks → tf c = ida c
theorem Tab.nokey {kvs : List (Key × U)} {ks : List Str} {tf : Str → Fm} (T : Tab kvs ks tf) {c : Str} (h : c ∉ ks) : kget kvs (.inr c) = none := kget_none (by
  rw [T.key]
  intro z
  obtain ⟨x, hx, e⟩ := List.mem_map.mp z
  cases e
  exact h hx)
theorem Tab.htb {kvs : List (Key × U)} {ks : List Str} {tf : Str → Fm} (T : Tab kvs ks tf) : ∀ c ∈ C8, (kget kvs (.inr c)).getD (E 0 (dl c)) = E (tf c).1 (tf c).2 := fun c _ => by
  by_cases h : c ∈ ks
  · rw [T.get c h]; rfl
  · rw [T.nokey h, T.out c h]; rfl
theorem Tab.le {kvs : List (Key × U)} {ks : List Str} {tf : Str → Fm} (T : Tab kvs ks tf) : ks.length ≤ 8 := nodup_len T.nd T.sub
theorem Tab.len {kvs : List (Key × U)} {ks : List Str} {tf : Str → Fm} (T : Tab kvs ks tf) : kvs.length = ks.length := by
  have := congrArg List.length T.key
  simpa using this
theorem Tab.nil : Tab [] [] ida := ⟨rfl, List.nodup_nil, by simp, by simp, fun _ _ => rfl⟩
def addK (ks : List Str) (c : Str) : List Str := if c ∈ ks then ks else ks ++ [c]
theorem mem_addK {ks : List Str} {c x : Str} : x ∈ addK ks c ↔ x ∈ ks ∨ x = c := by
  unfold addK
  by_cases h : c ∈ ks
  · rw [if_pos h]
    exact ⟨.inl, fun z => z.elim id fun e => e ▸ h⟩
  · rw [if_neg h]; simp
theorem addK_nodup {ks : List Str} {c : Str} (h : ks.Nodup) : (addK ks c).Nodup := by
  unfold addK
  by_cases hc : c ∈ ks
  · rw [if_pos hc]; exact h
  · rw [if_neg hc, List.nodup_append]
    exact ⟨h, by simp, fun a ha b hb => by rw [List.mem_singleton.mp hb]; exact fun e => hc (e ▸ ha)⟩
theorem Tab.put {kvs : List (Key × U)} {ks : List Str} {tf : Str → Fm} (T : Tab kvs ks tf) {c : Str} (hc : c ∈ C8) (f : Fm) : Tab (kput kvs (.inr c) (EF f)) (addK ks c) (fun x => if x = c then f else tf x) := by
  have hin : (Sum.inr c : Key) ∈ kvs.map (·.1) ↔ c ∈ ks := by
    rw [T.key]
    constructor
    · intro z
      obtain ⟨x, hx, e⟩ := List.mem_map.mp z
      cases e
      exact hx
    · exact fun z => List.mem_map_of_mem z
  refine ⟨?_, addK_nodup T.nd, fun x hx => (mem_addK.mp hx).elim (T.sub x) fun e => e ▸ hc, fun x hx => ?_, fun x hx => ?_⟩
  · unfold addK
    by_cases h : c ∈ ks
    · rw [kput_keys_in (hin.mpr h), if_pos h, T.key]
    · rw [kput_keys_out fun z => h (hin.mp z), if_neg h, T.key]; simp
  · rw [kget_put]
    by_cases e : x = c
    · subst e; simp
    · rw [if_neg (fun z => e (Sum.inr.inj z)), if_neg e]
      exact T.get x ((mem_addK.mp hx).resolve_right e)
  · have h1 : x ≠ c := fun e => hx (mem_addK.mpr (.inr e))
    simp only [if_neg h1]
    exact T.out x fun z => hx (mem_addK.mpr (.inl z))
theorem Tab.merge (tf0 : Str → Fm) : ∀ (ps : List Part) {kvs : List (Key × U)} {ks : List Str} {tf : Str → Fm}, Tab kvs ks tf → (ps.map (·.1)).Nodup → (∀ p ∈ ps, p.1 ∈ C8) → ∃ ks',
    Tab (kmerge kvs (ps.map fun p => (.inr p.1, EF (cmpF p.2 tf0)))) ks' (fun c => match ps.find? fun p => decide (p.1 = c) with | some p => cmpF p.2 tf0 | none => tf c) ∧ ∀ x, x ∈ ks' ↔ x ∈ ks ∨ x ∈ ps.map (·.1)
  | [], kvs, ks, tf, T, _, _ => ⟨ks, T, by simp⟩
  | p :: ps, kvs, ks, tf, T, hn, hs => by
    obtain ⟨h1, h2⟩ := List.nodup_cons.mp (show (p.1 :: ps.map (·.1)).Nodup from hn)
    obtain ⟨ks', T', hm⟩ := Tab.merge tf0 ps (T.put (hs p List.mem_cons_self) (cmpF p.2 tf0)) h2 fun q hq => hs q (List.mem_cons_of_mem _ hq)
    refine ⟨ks', ?_, fun x => ?_⟩
    · have e : (fun c => match (p :: ps).find? fun p => decide (p.1 = c) with | some p => cmpF p.2 tf0 | none => tf c) = (fun c => match ps.find? fun p => decide (p.1 = c) with | some p => cmpF p.2 tf0 | none => if c = p.1 then cmpF p.2 tf0 else tf c) := by
        funext c
        rw [List.find?_cons]
        by_cases ec : p.1 = c
        · subst ec
          simp only [decide_true, find_no h1, if_true]
        · simp only [ec, decide_false, if_neg (Ne.symm ec)]
      rw [e]
      exact T'
    · rw [hm, mem_addK, List.map_cons, List.mem_cons, or_assoc]
theorem dcL_new {α : Type} {g : GM} {t : BM} {ke ve : EM} {env : En} {k : Nat} (f : α → U) (key : α → Key) (val : α → U) : ∀ {xs : List α} {acc : List (Key × U)}, (∀ x ∈ xs, ∃ env1 u, g (f x) env = some env1 ∧ t env1 k = some (true, k) ∧ ke env1 k = some (u, k) ∧ toKey u = some (key x) ∧ ve env1 k = some (val x, k)) →
    ((acc.map (·.1)) ++ xs.map key).Nodup → acc.length + xs.length ≤ 1000 → dcL g t ke ve env (xs.map f) acc k = some (acc ++ xs.map (fun x => (key x, val x)), k)
  | [], acc, _, _, _ => by simp [dcL]
  | x :: xs, acc, h, hn, hl => by
    obtain ⟨env1, u, h1, h2, h3, h4, h5⟩ := h x List.mem_cons_self
    have hx : key x ∉ acc.map (·.1) := fun z => by
      rw [List.nodup_append] at hn
      exact hn.2.2 _ z _ (by simp) rfl
    have ih := dcL_new f key val (xs := xs) (acc := acc ++ [(key x, val x)]) (fun y hy => h y (List.mem_cons_of_mem _ hy)) (by simpa using hn) (by simp only [List.length_append, List.length_cons, List.length_nil] at hl ⊢; omega)
    simp only [List.map_cons, dcL, h1, h2, h3, h4, h5, Option.bind_some, if_true]
    rw [if_pos (by simp only [List.length_cons] at hl; omega), kput_new hx, ih]
    simp
structure DMap (d : Dd) : Prop where
  ok : DOk d
  nd : (WR d).Nodup
  le : d.ps.length ≤ 8
theorem E_imm (a : Int) (φ : Str → Int) : imm (E a φ) = true := by
  unfold E
  simp [imm, imms, imms_encT]
theorem kimms_map {α : Type} (key : α → Key) (val : α → U) : ∀ {xs : List α}, (∀ x ∈ xs, imm (val x) = true) → kimms (xs.map fun x => (key x, val x)) = true
  | [], _ => rfl
  | x :: xs, h => by
    rw [List.map_cons, kimms, Bool.and_eq_true]
    exact ⟨h x List.mem_cons_self, kimms_map key val fun y hy => h y (List.mem_cons_of_mem _ hy)⟩
def bodyB (ns : List Int) : SM := (sUpd 1 (eDc (aItems (eVar 4)) [5, 6] (gTp 2 (gsCons (gNm 5) (gsCons (gNm 6) gsNil))) bYes (eVar 5) (eCallN 2 (mf_put_in ns) (aCons (eVar 6) (aCons (eVar 1) aNil)))))
theorem turnB (ns : List Int) (u0 : U) {kvs : List (Key × U)} {ks : List Str} {tf : Str → Fm} (T : Tab kvs ks tf) {d : Dd} (hd : DMap d) (x5 x6 : Option U) (k : Nat) : ∃ kvs' ks',
    bodyB ns [some u0, some (.dct kvs), some (.str d.nm), some (.int d.tk), some (.tup (d.ps.map encP)), x5, x6] k = some (.nx [some u0, some (.dct kvs'), some (.str d.nm), some (.int d.tk), some (.tup (d.ps.map encP)), x5, x6], k) ∧ Tab kvs' ks' (stT tf d) ∧ ∀ x, x ∈ ks' ↔ x ∈ ks ∨ x ∈ WR d := by
  obtain ⟨ks', T', hm⟩ := Tab.merge tf d.ps T hd.nd fun p hp => (hd.ok p hp).1
  refine ⟨_, ks', ?_, T', hm⟩
  have hk : (d.ps.map fun p => (Sum.inr p.1 : Key)) = (WR d).map Sum.inr := by simp [WR]
  have e1 : dcL (gTp 2 (gsCons (gNm 5) (gsCons (gNm 6) gsNil))) bYes (eVar 5) (eCallN 2 (mf_put_in ns) (aCons (eVar 6) (aCons (eVar 1) aNil))) [some u0, some (.dct kvs), some (.str d.nm), some (.int d.tk), some (.tup (d.ps.map encP)), none, none] (d.ps.map encP) [] k = some (d.ps.map fun p => (.inr p.1, EF (cmpF p.2 tf)), k) := by
    have := dcL_new (g := gTp 2 (gsCons (gNm 5) (gsCons (gNm 6) gsNil))) (t := bYes) (ke := eVar 5) (ve := eCallN 2 (mf_put_in ns) (aCons (eVar 6) (aCons (eVar 1) aNil))) (env := [some u0, some (.dct kvs), some (.str d.nm), some (.int d.tk), some (.tup (d.ps.map encP)), none, none]) (k := k) encP (fun p => .inr p.1) (fun p => EF (cmpF p.2 tf)) (xs := d.ps) (acc := []) (fun p hp => ⟨[some u0, some (.dct kvs), some (.str d.nm), some (.int d.tk), some (.tup (d.ps.map encP)), some (.str p.1), some (E p.2.1 p.2.2)], .str p.1, rfl, rfl, rfl, rfl, call2_run rfl rfl (put_in_eq ns p.2.1 T.htb (hd.ok p hp).2 k)⟩) (by rw [List.map_nil, List.nil_append, hk]; exact nodup_inr hd.nd) (by have := hd.le; simp only [List.length_nil]; omega)
    simpa using this
  have h8 := T.le
  have h9 := T.len
  have hle := hd.le
  simp only [bodyB, sUpd, eDc, aItems, eVar, List.getElem?_cons_succ, List.getElem?_cons_zero, Option.bind_some, itemsU, wipeE, List.set_cons_succ, List.set_cons_zero, e1]
  rw [if_pos]
  refine ⟨kimms_map _ _ fun p _ => E_imm _ _, ?_⟩
  rw [List.length_map]
  omega
theorem loopB (ns : List Int) (u0 : U) (k : Nat) : ∀ (R : List Dd) {kvs : List (Key × U)} {ks : List Str} {tf : Str → Fm}, Tab kvs ks tf → (∀ d ∈ R, DMap d) → ∀ x2 x3 x4 x5 x6 : Option U, ∃ kvs' ks' y2 y3 y4 y5 y6,
    forL (gTp 3 (gsCons (gNm 2) (gsCons (gNm 3) (gsCons (gNm 4) gsNil)))) (bodyB ns) (R.map encD) [some u0, some (.dct kvs), x2, x3, x4, x5, x6] k = some (.nx [some u0, some (.dct kvs'), y2, y3, y4, y5, y6], k) ∧ Tab kvs' ks' (TFs R tf) ∧ ∀ x, x ∈ ks' ↔ x ∈ ks ∨ ∃ d ∈ R, x ∈ WR d
  | [], kvs, ks, tf, T, _, x2, x3, x4, x5, x6 => ⟨kvs, ks, x2, x3, x4, x5, x6, rfl, T, by simp⟩
  | d :: R, kvs, ks, tf, T, h, x2, x3, x4, x5, x6 => by
    obtain ⟨kvs1, ks1, e1, T1, m1⟩ := turnB ns u0 T (h d List.mem_cons_self) x5 x6 k
    obtain ⟨kvs2, ks2, y2, y3, y4, y5, y6, e2, T2, m2⟩ := loopB ns u0 k R T1 (fun x hx => h x (List.mem_cons_of_mem _ hx)) (some (.str d.nm)) (some (.int d.tk)) (some (.tup (d.ps.map encP))) x5 x6
    refine ⟨kvs2, ks2, y2, y3, y4, y5, y6, ?_, T2, fun x => ?_⟩
    · rw [List.map_cons]
      have g1 : gTp 3 (gsCons (gNm 2) (gsCons (gNm 3) (gsCons (gNm 4) gsNil))) (encD d) [some u0, some (.dct kvs), x2, x3, x4, x5, x6] = some [some u0, some (.dct kvs), some (.str d.nm), some (.int d.tk), some (.tup (d.ps.map encP)), x5, x6] := rfl
      simp only [forL, g1, Option.bind_some, e1]
      exact e2
    · rw [m2, m1]
      simp [or_assoc]
theorem forms_behind_eq (ns : List Int) {R : List Dd} (h : ∀ d ∈ R, DMap d) (k : Nat) : ∃ kvs ks, mf_forms_behind ns [encR R] k = some (.dct kvs, k) ∧ Tab kvs ks (TF R) ∧ ∀ x, x ∈ ks ↔ ∃ d ∈ R, x ∈ WR d := by
  obtain ⟨kvs, ks, y2, y3, y4, y5, y6, e, T, m⟩ := loopB ns (encR R) k R Tab.nil h none none none none none
  refine ⟨kvs, ks, runM_rt (k' := k) ?_, T, fun x => by rw [m]; simp⟩
  show m_forms_behind ns [some (encR R), none, none, none, none, none, none] k = _
  unfold m_forms_behind
  exact seq_run (asg_run rfl) (seq_run (for_run (items_run rfl rfl) e) rfl)
theorem strKs_keys : ∀ (kvs : List (Key × U)) (ks : List Str), kvs.map (·.1) = ks.map Sum.inr → strKs kvs = some ks
  | [], [], _ => rfl
  | [], _ :: _, h => by cases h
  | _ :: _, [], h => by cases h
  | (key, v) :: kvs, c :: ks, h => by
    simp only [List.map_cons, List.cons.injEq] at h
    obtain ⟨h1, h2⟩ := h
    subst h1
    show (strKs kvs).map (c :: ·) = _
    rw [strKs_keys kvs ks h2]
    rfl
theorem sorted_is {l : List Str} (hn : l.Nodup) (hs : ∀ c ∈ l, c ∈ C8) : sortS l = C8.filter fun c => decide (c ∈ l) := by
  have hp := sortS_perm l
  refine perm_unique (r := fun a b => leS a b = true) (fun _ _ => leS_antisymm) ?_ (sortS_pw _) (c8_rise.filter _)
  refine (List.perm_ext_iff_of_nodup (hp.nodup_iff.mpr hn) (c8_nodup.filter _)).mpr fun c => ?_
  rw [List.mem_filter, hp.mem_iff]
  exact ⟨fun h => ⟨hs c h, by simpa using h⟩, fun h => by simpa using h.2⟩
theorem Tab.sorted {kvs : List (Key × U)} {ks : List Str} {tf : Str → Fm} (T : Tab kvs ks tf) : fSorted [.dct kvs] = some (.lst ((C8.filter fun c => decide (c ∈ ks)).map U.str)) := by
  simp only [fSorted, strKs_keys kvs ks T.key, Option.bind_some]
  rw [if_pos (by have := T.le; omega), sorted_is T.nd T.sub]
theorem Tab.idx {kvs : List (Key × U)} {ks : List Str} {tf : Str → Fm} (T : Tab kvs ks tf) {c : Str} (hc : c ∈ ks) : fIdx (.dct kvs) (.str c) = some (EF (tf c)) := by
  show (toKey (.str c)).bind (kget kvs) = _
  exact T.get c hc
noncomputable def MC (tf : Str → Fm) : List Str := C8.filter fun c => !eqb (EF (tf c)) (EF (ida c))
def pairF (tf : Str → Fm) (c : Str) : U := .tup [.str c, EF (tf c)]
noncomputable def MT (tf : Str → Fm) : U := .tup ((MC tf).map (pairF tf))
theorem MT_ext {tf tg : Str → Fm} (h : ∀ c ∈ C8, EF (tf c) = EF (tg c)) : MT tf = MT tg := by
  have e : MC tf = MC tg := by
    unfold MC
    exact List.filter_congr fun c hc => by rw [h c hc]
  unfold MT
  rw [← e]
  congr 1
  refine List.map_congr_left fun c hc => ?_
  unfold pairF
  rw [h c (List.mem_filter.mp hc).1]
theorem mem_MC {tf : Str → Fm} {c : Str} : c ∈ MC tf ↔ c ∈ C8 ∧ EF (tf c) ≠ EF (ida c) := by
  unfold MC
  rw [List.mem_filter]
  refine and_congr_right fun _ => ?_
  constructor
  · intro h e
    rw [eqb_t e] at h
    cases h
  · intro h
    rw [eqb_f h]
    rfl
theorem MT_inj {tf tg : Str → Fm} (h : MT tf = MT tg) : ∀ c ∈ C8, EF (tf c) = EF (tg c) := by
  unfold MT at h
  injection h with h
  have key : ∀ {tf tg : Str → Fm}, (MC tf).map (pairF tf) = (MC tg).map (pairF tg) → ∀ c ∈ MC tf, c ∈ MC tg ∧ EF (tf c) = EF (tg c) := fun {tf tg} h c hc => by
    have : pairF tf c ∈ (MC tg).map (pairF tg) := h ▸ List.mem_map_of_mem hc
    obtain ⟨x, hx, e⟩ := List.mem_map.mp this
    unfold pairF at e
    injection e with e
    injection e with e1 e2
    injection e2 with e2 _
    have := U.str.inj e1
    subst this
    exact ⟨hx, e2.symm⟩
  intro c hc
  by_cases h1 : c ∈ MC tf
  · exact (key h c h1).2
  · by_cases h2 : c ∈ MC tg
    · exact (key h.symm c h2).2.symm
    · have i1 : EF (tf c) = EF (ida c) := Classical.byContradiction fun z => h1 (mem_MC.mpr ⟨hc, z⟩)
      have i2 : EF (tg c) = EF (ida c) := Classical.byContradiction fun z => h2 (mem_MC.mpr ⟨hc, z⟩)
      rw [i1, i2]
theorem MT_iff {tf tg : Str → Fm} : MT tf = MT tg ↔ ∀ c ∈ C8, EF (tf c) = EF (tg c) := ⟨MT_inj, MT_ext⟩
theorem pairF_pn (tf : Str → Fm) {c : Str} (hc : c ∈ C8) : Pn 4 (pairF tf c) := .tup fun w hw => by
  rcases List.mem_cons.mp hw with rfl | hw
  · exact .str _ (c8_ok c hc)
  · rcases List.mem_cons.mp hw with rfl | hw
    · exact (E_pn _ _)
    · cases hw
theorem MT_pn (tf : Str → Fm) : Pn 5 (MT tf) := .tup fun w hw => by
  obtain ⟨c, hc, rfl⟩ := List.mem_map.mp hw
  exact pairF_pn tf (mem_MC.mp hc).1
theorem len8 (p : Str → Bool) : (C8.filter p).length ≤ 8 := List.length_filter_le _ _
theorem map_of_eq (ns : List Int) {R : List Dd} (h : ∀ d ∈ R, DMap d) (k : Nat) : mf_map_of ns [encR R] k = some (MT (TF R), k) := by
  obtain ⟨kvs, ks, e, T, m⟩ := forms_behind_eq ns h k
  have e2 := genL_filter (g := gNm 2) (t := bVal (eBin fNe (eIdx ns (eVar 1) (eVar 2)) (eCallN 1 (mf_form_of_cell ns) (aCons (eVar 2) aNil)))) (e := eTup (aCons (eVar 2) (aCons (eIdx ns (eVar 1) (eVar 2)) aNil))) (env := [some (encR R), some (.dct kvs), none]) (k := k) U.str (pairF (TF R)) (fun c => !eqb (EF (TF R c)) (EF (ida c))) (xs := C8.filter fun c => decide (c ∈ ks)) (fun c hc => by
    obtain ⟨h1, h2⟩ := List.mem_filter.mp hc
    have h2 : c ∈ ks := by simpa using h2
    have i1 : eIdx ns (eVar 1) (eVar 2) [some (encR R), some (.dct kvs), some (.str c)] k = some (EF (TF R c), k) := by
      simp only [eIdx, eVar, List.getElem?_cons_succ, List.getElem?_cons_zero, Option.bind_some, T.idx h2]
    refine ⟨[some (encR R), some (.dct kvs), some (.str c)], rfl, val_run (bin_run i1 (call1_run rfl (form_of_cell_eq ns h1 k)) (fNe_eqb (E_pn _ _) (E_pn _ _))), fun _ => ?_⟩
    exact tup2_run rfl i1)
  rw [List.filter_filter] at e2
  have e3 : (C8.filter fun c => (!eqb (EF (TF R c)) (EF (ida c))) && decide (c ∈ ks)) = MC (TF R) := by
    unfold MC
    refine List.filter_congr fun c hc => ?_
    by_cases hk : c ∈ ks
    · rw [decide_eq_true hk, Bool.and_true]
    · rw [T.out c hk, eqb_t rfl]
      rfl
  rw [e3] at e2
  refine runM_rt (k' := k) ?_
  show m_map_of ns [some (encR R), none, none] k = _
  unfold m_map_of
  refine seq_run (asg_run (call1_run rfl e)) ?_
  have e4 : eTupG (aItems (eFn fSorted (aCons (eVar 1) aNil))) [2] (gNm 2) (bVal (eBin fNe (eIdx ns (eVar 1) (eVar 2)) (eCallN 1 (mf_form_of_cell ns) (aCons (eVar 2) aNil)))) (eTup (aCons (eVar 2) (aCons (eIdx ns (eVar 1) (eVar 2)) aNil))) [some (encR R), some (.dct kvs), none] k = some (MT (TF R), k) := by
    have a1 : aItems (eFn fSorted (aCons (eVar 1) aNil)) [some (encR R), some (.dct kvs), none] k = some ((C8.filter fun c => decide (c ∈ ks)).map U.str, k) := items_run (fn_run1 rfl T.sorted) rfl
    exact tupG_run a1 e2 (by rw [List.length_map]; have : (MC (TF R)).length ≤ 8 := len8 _; omega)
  exact ret_run e4
def WS (R : List Dd) : List Str := C8.filter fun c => R.any fun d => wrb d c
def JP (R : List Dd) : List Part := (WS R).map fun c => (c, TF R c)
def JD (nm : Str) (tk : Int) (R : List Dd) : Dd := ⟨nm, tk, JP R⟩
theorem mem_WS {R : List Dd} {c : Str} : c ∈ WS R ↔ c ∈ C8 ∧ ∃ d ∈ R, c ∈ WR d := by
  unfold WS
  rw [List.mem_filter, List.any_eq_true]
  simp [wrb]
theorem joined_eq (ns : List Int) {R : List Dd} (h : ∀ d ∈ R, DMap d) (nm : Str) (tk : Int) (k : Nat) : mf_joined ns [.str nm, .int tk, encR R] k = some (encD (JD nm tk R), k) := by
  obtain ⟨kvs, ks, e, T, m⟩ := forms_behind_eq ns h k
  have hks : (C8.filter fun c => decide (c ∈ ks)) = WS R := by
    unfold WS
    refine List.filter_congr fun c hc => ?_
    rw [Bool.eq_iff_iff, decide_eq_true_iff, m, List.any_eq_true]
    simp [wrb]
  have e2 := genL_map (g := gNm 4) (t := bYes) (e := eTup (aCons (eVar 4) (aCons (eIdx ns (eVar 3) (eVar 4)) aNil))) (env := [some (.str nm), some (.int tk), some (encR R), some (.dct kvs), none]) (k := k) U.str (pairF (TF R)) (xs := WS R) (fun c hc => by
    have h2 : c ∈ ks := (m c).mpr (mem_WS.mp hc).2
    have i1 : eIdx ns (eVar 3) (eVar 4) [some (.str nm), some (.int tk), some (encR R), some (.dct kvs), some (.str c)] k = some (EF (TF R c), k) := by
      simp only [eIdx, eVar, List.getElem?_cons_succ, List.getElem?_cons_zero, Option.bind_some, T.idx h2]
    refine ⟨[some (.str nm), some (.int tk), some (encR R), some (.dct kvs), some (.str c)], rfl, rfl, ?_⟩
    exact tup2_run rfl i1)
  have e4 : eTupG (aItems (eFn fSorted (aCons (eVar 3) aNil))) [4] (gNm 4) bYes (eTup (aCons (eVar 4) (aCons (eIdx ns (eVar 3) (eVar 4)) aNil))) [some (.str nm), some (.int tk), some (encR R), some (.dct kvs), none] k = some (.tup ((JP R).map encP), k) := by
    have a1 : aItems (eFn fSorted (aCons (eVar 3) aNil)) [some (.str nm), some (.int tk), some (encR R), some (.dct kvs), none] k = some ((WS R).map U.str, k) := by
      rw [← hks]
      exact items_run (fn_run1 rfl T.sorted) rfl
    have h8 : (WS R).length ≤ 8 := len8 _
    have := tupG_run (vs := [4]) (env := [some (.str nm), some (.int tk), some (encR R), some (.dct kvs), none]) a1 e2 (by rw [List.length_map]; omega)
    rw [this]
    unfold JP
    rw [List.map_map]
    rfl
  refine runM_rt (k' := k) ?_
  show m_joined ns [some (.str nm), some (.int tk), some (encR R), none, none] k = _
  unfold m_joined
  exact seq_run (asg_run (call1_run rfl e)) (ret_run (tup3_run rfl rfl e4))
theorem JP_keys (R : List Dd) : (JP R).map (·.1) = WS R := by
  unfold JP
  rw [List.map_map]
  exact List.map_id' _
theorem JD_map {R : List Dd} {nm : Str} {tk : Int} {B : Int} (hB : CB (TF R) B) (h64 : B < 2 ^ 64) : DMap (JD nm tk R) := by
  refine ⟨fun p hp => ?_, ?_, ?_⟩
  · obtain ⟨c, hc, rfl⟩ := List.mem_map.mp hp
    have h1 := (mem_WS.mp hc).1
    exact ⟨h1, CB_sml hB h64 h1⟩
  · show ((JP R).map (·.1)).Nodup
    rw [JP_keys]
    exact c8_nodup.filter _
  · show (JP R).length ≤ 8
    unfold JP
    rw [List.length_map]
    exact len8 _
theorem TF_out {R : List Dd} {c : Str} (h : ∀ d ∈ R, c ∉ WR d) : ∀ {tf : Str → Fm}, TFs R tf c = tf c := by
  induction R with
  | nil => intro tf; rfl
  | cons d R ih =>
    intro tf
    show TFs R (stT tf d) c = _
    rw [ih fun x hx => h x (List.mem_cons_of_mem _ hx), stT_out (h d List.mem_cons_self)]
theorem dn_JD {R : List Dd} (h : ∀ d ∈ R, (WR d).Nodup) (nm : Str) (tk : Int) (φ : Str → Int) : ∀ c ∈ C8, dn (JD nm tk R) φ c = rn R φ c := fun c hc => by
  by_cases hw : c ∈ WS R
  · have := dn_in (d := JD nm tk R) (φ := φ) (p := (c, TF R c)) (by show ((JP R).map (·.1)).Nodup; rw [JP_keys]; exact c8_nodup.filter _) (List.mem_map.mpr ⟨c, hw, rfl⟩)
    rw [this]
    exact vl_TF h φ hc
  · rw [dn_out (by show c ∉ (JP R).map (·.1); rw [JP_keys]; exact hw)]
    rw [← vl_TF h φ hc]
    unfold TF
    rw [TF_out fun d hd hcd => hw (mem_WS.mpr ⟨hc, d, hd, hcd⟩), vl_ida hc]
theorem MT_nil {tf : Str → Fm} : MT tf = .tup [] ↔ ∀ c ∈ C8, EF (tf c) = EF (ida c) := by
  have e : MT ida = .tup [] := by
    unfold MT
    rw [show MC ida = [] from List.filter_eq_nil_iff.mpr fun c _ => by rw [eqb_t rfl]; simp]
    rfl
  rw [← e]
  exact MT_iff
theorem nil_pn (n : Nat) : Pn (n + 1) (.tup []) := .tup fun _ h => by cases h
theorem is_idle_eq (ns : List Int) {d : Dd} (h : DMap d) (k : Nat) : mf_is_idle ns [encD d] k = some (.bl (eqb (MT (TF [d])) (.tup [])), k) := by
  refine runM_rt (k' := k) ?_
  show m_is_idle ns [some (encD d)] k = _
  unfold m_is_idle
  refine ret_run (bin_run (call1_run (u := encR [d]) rfl (map_of_eq ns (fun x hx => by rw [List.mem_singleton.mp hx]; exact h) k)) rfl (fEq_eqb (MT_pn _) (nil_pn 0)))
theorem are_alike_eq (ns : List Int) {R S : List Dd} (h : ∀ d ∈ R, DMap d) (h2 : ∀ d ∈ S, DMap d) (k : Nat) : mf_are_alike ns [encR R, encR S] k = some (.bl (eqb (MT (TF R)) (MT (TF S))), k) := by
  refine runM_rt (k' := k) ?_
  show m_are_alike ns [some (encR R), some (encR S)] k = _
  unfold m_are_alike
  exact ret_run (bin_run (call1_run rfl (map_of_eq ns h k)) (call1_run rfl (map_of_eq ns h2 k)) (fEq_eqb (MT_pn _) (MT_pn _)))
theorem alike_iff {R S : List Dd} (h : ∀ d ∈ R, (WR d).Nodup) (h2 : ∀ d ∈ S, (WR d).Nodup) : MT (TF R) = MT (TF S) ↔ ∀ φ, ∀ c ∈ C8, rn R φ c = rn S φ c := by
  rw [MT_iff]
  constructor
  · intro e φ c hc
    rw [← vl_TF h φ hc, ← vl_TF h2 φ hc]
    exact EF_inj (e c hc) φ
  · intro e c hc
    exact EF_ext fun φ => by rw [vl_TF h φ hc, vl_TF h2 φ hc, e φ c hc]
end Cm
set_option linter.all false
set_option Elab.async false
set_option maxRecDepth 100000
set_option maxHeartbeats 1000000
namespace K33
open PySem L2 UM Cm
local macro_rules
  | `(tactic| left) => `(tactic| first
    | with_reducible assumption
    | with_reducible exact c_run
    | (with_reducible refine var_run ?_; exact rfl)
    | (with_reducible apply seq_run <;> left)
    | (with_reducible apply asgE <;> left)
    | with_reducible exact set0
    | (refine setS ?_; left)
    | (with_reducible apply parN <;> left)
    | (with_reducible apply asgG_run <;> left)
    | (with_reducible apply gNm_run <;> left)
    | (with_reducible apply gTp2_run <;> left)
    | (with_reducible apply gTp3_run <;> left)
    | (with_reducible apply gTp3_encD <;> left)
    | (with_reducible apply if_skip <;> left)
    | (with_reducible apply val_run <;> left)
    | (with_reducible apply bin_run <;> left)
    | (with_reducible apply call1_run <;> left)
    | (with_reducible apply call2_run <;> left)
    | (with_reducible apply call3_run <;> left)
    | (with_reducible apply call4_run <;> left)
    | (with_reducible apply or_ff <;> left)
    | (with_reducible apply tru_run <;> left)
    | (with_reducible apply un_run <;> left)
    | with_reducible exact tup0_run
    | (with_reducible apply tup1_run <;> left)
    | (with_reducible apply tup2_run <;> left)
    | (with_reducible apply tup3_run <;> left)
    | with_reducible exact lst0_run
    | (with_reducible apply lst1_run <;> left)
    | (with_reducible apply lst2_run <;> left)
    | (with_reducible apply fn_run1 <;> left)
    | (with_reducible apply fn2_run <;> left)
    | (with_reducible apply items_run <;> left)
    | (with_reducible apply enum_run <;> left)
    | (with_reducible apply idx_run <;> left)
    | (with_reducible apply sl_run <;> left)
    | with_reducible exact no_run
    | (with_reducible apply yes_run <;> left)
    | (with_reducible apply imm_run <;> left)
    | (with_reducible apply ret_run <;> left)
    | (with_reducible apply drop_run <;> left)
    | (with_reducible apply forS_run <;> left)
    | (with_reducible apply lcE_run <;> left)
    | (with_reducible apply tupG_run <;> left)
    | with_reducible exact skip_run
    | with_reducible exact fAdd_i _ _
    | with_reducible exact fSub_i _ _
    | with_reducible exact fNeg_i _
    | with_reducible exact items_t _
    | with_reducible exact items_l _
    | with_reducible exact itemsE_t _
    | with_reducible exact fTuple_l _
    | with_reducible exact fTuple_t _
    | with_reducible exact tru_b _ _
    | skip)
def bd1 (ns : List Int) : SM := (sIf (bVal (eBin fNe (eCallN 2 (mf_worth_at ns) (aCons (eCallN 2 (mf_run ns) (aCons (eVar 11) (aCons (eBin fAdd (eVar 5) (eVar 6)) aNil))) (aCons (eVar 12) aNil))) (eCallN 2 (mf_worth_of ns) (aCons (eVar 13) (aCons (eFn fDict (aCons (eVar 11) aNil)) aNil))))) (sRet (eC (.bl false))) sSkip)
def bd2 (ns : List Int) : SM := (sSeq (sAsg 5 (eCallN 3 (mf__law_row ns) (aCons (eVar 0) (aCons (eVar 1) (aCons (eC (.int 5)) aNil))))) (sSeq (sAsg 6 (eFn fTuple (aCons (eLc (aItems (eCallN 3 (mf__law_row ns) (aCons (eVar 0) (aCons (eVar 1) (aCons (eC (.int 5)) aNil))))) [7, 8, 9] (gTp 3 (gsCons (gNm 7) (gsCons (gNm 8) (gsCons (gNm 9) gsNil)))) bYes (eTup (aCons (eBin fAdd (eC (.str "z")) (eSl (eVar 7) oNo (oYes (eC (.int 2))))) (aCons (eVar 8) (aCons (eVar 9) aNil))))) aNil))) (sSeq (sAsg 6 (eSl (eBin fAdd (eVar 6) (eTup (aCons (eVar 2) (aCons (eVar 3) aNil)))) (oYes (eCallN 3 (mf__law_draw ns) (aCons (eVar 0) (aCons (eVar 1) (aCons (eC (.int 3)) aNil))))) oNo)) (sSeq (sIf (bVal (eBin fNe (eCallN 1 (mf_map_of ns) (aCons (eBin fAdd (eVar 5) (eVar 6)) aNil)) (eCallN 2 (mf__law_both ns) (aCons (eCallN 1 (mf_map_of ns) (aCons (eVar 5) aNil)) (aCons (eCallN 1 (mf_map_of ns) (aCons (eVar 6) aNil)) aNil))))) (sRet (eC (.bl false))) sSkip) (sSeq (sPar 10 11 (aCons (eCallN 3 (mf_joined ns) (aCons (eC (.str "all")) (aCons (eC (.int 3)) (aCons (eBin fAdd (eVar 5) (eVar 6)) aNil)))) (aCons (eCallN 2 (mf__law_store ns) (aCons (eVar 0) (aCons (eVar 1) aNil))) aNil))) (sSeq (sIf (bOr (bVal (eBin fNe (eCallN 1 (mf_writes ns) (aCons (eVar 10) aNil)) (eCallN 1 (mf__law_written ns) (aCons (eBin fAdd (eVar 5) (eVar 6)) aNil)))) (bVal (eBin fNe (eSl (eVar 10) oNo (oYes (eC (.int 2)))) (eTup (aCons (eC (.str "all")) (aCons (eC (.int 3)) aNil)))))) (sRet (eC (.bl false))) sSkip) (sSeq (sIf (bOr (bVal (eBin fNe (eCallN 2 (mf_done ns) (aCons (eVar 11) (aCons (eVar 10) aNil))) (eCallN 2 (mf_run ns) (aCons (eVar 11) (aCons (eBin fAdd (eVar 5) (eVar 6)) aNil))))) (bVal (eBin fNe (eCallN 3 (mf_joined ns) (aCons (eC (.str "all")) (aCons (eC (.int 3)) (aCons (eTup (aCons (eVar 10) aNil)) aNil)))) (eVar 10)))) (sRet (eC (.bl false))) sSkip) (sSeq (sIf (bOr (bNot (bTru ns (eCallN 2 (mf_are_alike ns) (aCons (eTup (aCons (eVar 10) aNil)) (aCons (eBin fAdd (eVar 5) (eVar 6)) aNil))))) (bVal (eBin fNe (eCallN 1 (mf_is_idle ns) (aCons (eVar 10) aNil)) (eBin fEq (eCallN 1 (mf_map_of ns) (aCons (eBin fAdd (eVar 5) (eVar 6)) aNil)) (eTup aNil))))) (sRet (eC (.bl false))) sSkip) (sFor (aItems (eCallN 1 (mf_map_of ns) (aCons (eBin fAdd (eVar 5) (eVar 6)) aNil))) (gTp 2 (gsCons (gNm 12) (gsCons (gNm 13) gsNil))) (bd1 ns))))))))))
theorem bd_eq (ns : List Int) : m_law ns = (sSeq (sAsg 2 (eTup (aCons (eC (.str "turn")) (aCons (eC (.int 1)) (aCons (eTup (aCons (eTup (aCons (eC (.str "a")) (aCons (eTup (aCons (eC (.int 0)) (aCons (eTup (aCons (eTup (aCons (eC (.str "c")) (aCons (eC (.int 1)) aNil))) aNil)) aNil))) aNil))) (aCons (eTup (aCons (eC (.str "c")) (aCons (eTup (aCons (eC (.int 0)) (aCons (eTup (aCons (eTup (aCons (eC (.str "a")) (aCons (eC (.int 1)) aNil))) aNil)) aNil))) aNil))) aNil))) aNil))))) (sSeq (sAsg 3 (eTup (aCons (eC (.str "keep")) (aCons (eC (.int 1)) (aCons (eTup (aCons (eTup (aCons (eC (.str "b")) (aCons (eTup (aCons (eC (.int 0)) (aCons (eTup (aCons (eTup (aCons (eC (.str "b")) (aCons (eC (.int 1)) aNil))) aNil)) aNil))) aNil))) aNil)) aNil))))) (sSeq (sFor (aRng1 (eC (.int 4))) (gNm 4) (bd2 ns)) (sSeq (sIf (bOr (bTru ns (eCallN 1 (mf_is_idle ns) (aCons (eVar 2) aNil))) (bOr (bNot (bTru ns (eCallN 1 (mf_is_idle ns) (aCons (eVar 3) aNil)))) (bOr (bVal (eBin fNe (eCallN 1 (mf_map_of ns) (aCons (eTup (aCons (eVar 2) (aCons (eVar 2) aNil))) aNil)) (eTup aNil))) (bNot (bTru ns (eCallN 2 (mf_are_alike ns) (aCons (eTup (aCons (eVar 3) aNil)) (aCons (eTup aNil) aNil)))))))) (sRet (eC (.bl false))) sSkip) (sRet (eC (.bl true))))))) := rfl
theorem loopW1 (u0 u2 : U) (k : Nat) : ∀ (l : List Str) (d : List (Str × Int)) (x3 : Option U), (keysD d).Nodup → (∀ c ∈ keysD d, c ∈ C8) → (∀ c ∈ l, c ∈ C8) → ∃ d' y3,
    forL (gNm 3) (sDput 1 (eVar 3) (eC (.int 0))) (l.map U.str) [some u0, some (.dct (emb d)), some u2, x3] k = some (.nx [some u0, some (.dct (emb d')), some u2, y3], k) ∧ (keysD d').Nodup ∧ (∀ c ∈ keysD d', c ∈ C8) ∧ ∀ c, c ∈ keysD d' ↔ c ∈ keysD d ∨ c ∈ l
  | [], d, x3, h1, h2, _ => ⟨d, x3, rfl, h1, h2, by simp⟩
  | c :: l, d, x3, h1, h2, h3 => by
    have h8 := keys_le h1 h2
    obtain ⟨d', y3, e, g1, g2, g3⟩ := loopW1 u0 u2 k l (sput d c 0) (some (.str c)) (sput_nodup h1) (fun x hx => (sput_mem.mp hx).elim (h2 x) fun z => z ▸ h3 _ List.mem_cons_self) fun x hx => h3 x (List.mem_cons_of_mem _ hx)
    refine ⟨d', y3, ?_, g1, g2, fun x => by rw [g3, sput_mem, List.mem_cons, or_assoc]⟩
    have e1 : sDput 1 (eVar 3) (eC (.int 0)) [some u0, some (.dct (emb d)), some u2, some (.str c)] k = some (.nx [some u0, some (.dct (emb (sput d c 0))), some u2, some (.str c)], k) := dput_run rfl rfl rfl rfl (by simp only [emb, List.length_map]; omega) (by rw [emb_put]; rfl)
    rw [List.map_cons]
    simp only [forL, gNm, List.set_cons_succ, List.set_cons_zero, Option.bind_some, e1]
    exact e
theorem loopW (ns : List Int) (u0 : U) (k : Nat) : ∀ (R : List Dd) (d : List (Str × Int)) (x2 x3 : Option U), (keysD d).Nodup → (∀ c ∈ keysD d, c ∈ C8) → (∀ d ∈ R, DMap d) → ∃ d' y2 y3,
    forL (gNm 2) (sFor (aItems (eCallN 1 (mf_writes ns) (aCons (eVar 2) aNil))) (gNm 3) (sDput 1 (eVar 3) (eC (.int 0)))) (R.map encD) [some u0, some (.dct (emb d)), x2, x3] k = some (.nx [some u0, some (.dct (emb d')), y2, y3], k) ∧ (keysD d').Nodup ∧ (∀ c ∈ keysD d', c ∈ C8) ∧ ∀ c, c ∈ keysD d' ↔ c ∈ keysD d ∨ ∃ x ∈ R, c ∈ WR x
  | [], d, x2, x3, h1, h2, _ => ⟨d, x2, x3, rfl, h1, h2, by simp⟩
  | e :: R, d, x2, x3, h1, h2, h3 => by
    have he := h3 e List.mem_cons_self
    obtain ⟨d1, y3, e1, g1, g2, g3⟩ := loopW1 u0 (encD e) k (WR e) d x3 h1 h2 fun c hc => by
      obtain ⟨p, hp, rfl⟩ := List.mem_map.mp hc
      exact (he.ok p hp).1
    obtain ⟨d2, z2, z3, e2, i1, i2, i3⟩ := loopW ns u0 k R d1 (some (encD e)) y3 g1 g2 fun x hx => h3 x (List.mem_cons_of_mem _ hx)
    have w := writes_eq ns (d := e) (by have := he.le; omega) k
    have e3 : sFor (aItems (eCallN 1 (mf_writes ns) (aCons (eVar 2) aNil))) (gNm 3) (sDput 1 (eVar 3) (eC (.int 0))) [some u0, some (.dct (emb d)), some (encD e), x3] k = some (.nx [some u0, some (.dct (emb d1)), some (encD e), y3], k) := for_run (items_run (call1_run rfl w) rfl) e1
    refine ⟨d2, z2, z3, ?_, i1, i2, fun x => ?_⟩
    · rw [List.map_cons]
      simp only [forL, gNm, List.set_cons_succ, List.set_cons_zero, Option.bind_some, e3]
      exact e2
    · rw [i3, g3]
      simp [or_assoc]
theorem written_eq (ns : List Int) {R : List Dd} (h : ∀ d ∈ R, DMap d) (k : Nat) : mf__law_written ns [encR R] k = some (strT (WS R), k) := by
  obtain ⟨d, y2, y3, e, g1, g2, g3⟩ := loopW ns (encR R) k R [] none none (by simp [keysD]) (by simp [keysD]) h
  have h8 := keys_le g1 g2
  refine runM_rt (k' := k) ?_
  show m__law_written ns [some (encR R), none, none, none] k = _
  unfold m__law_written
  have e2 : sortS (keysD d) = WS R := by
    rw [sorted_is g1 g2]
    unfold WS
    refine List.filter_congr fun c hc => ?_
    rw [Bool.eq_iff_iff, decide_eq_true_iff, g3, List.any_eq_true]
    simp [wrb, keysD]
  have e3 := sorted_emb h8
  rw [e2] at e3
  exact seq_run (asg_run rfl) (seq_run (for_run (items_run rfl rfl) e) (ret_run (fn_run1 (fn_run1 rfl e3) rfl)))
def tfM (tf : Str → Fm) (ks : List Str) (c : Str) : Fm := if c ∈ ks then tf c else ida c
theorem tfM_vl {tf : Str → Fm} (φ : Str → Int) {c : Str} (hc : c ∈ C8) : vl (tfM tf (MC tf) c) φ = vl (tf c) φ := by
  unfold tfM
  by_cases h : c ∈ MC tf
  · rw [if_pos h]
  · rw [if_neg h]
    have : EF (tf c) = EF (ida c) := Classical.byContradiction fun z => h (mem_MC.mpr ⟨hc, z⟩)
    exact (EF_inj this φ).symm
theorem pairs_MT (tf : Str → Fm) : ∀ l : List Str, pairsU (l.map (pairF tf)) = some (l.map fun c => (.inr c, EF (tf c)))
  | [] => rfl
  | c :: l => by
    have ih := pairs_MT tf l
    rw [List.map_cons, List.map_cons]
    show (pairsU (U.tup [.str c, EF (tf c)] :: l.map (pairF tf))) = _
    simp only [pairsU, toKey, ih, Option.bind_some, Option.map_some]
    rfl
theorem get_map (tf : Str → Fm) {c : Str} : ∀ {l : List Str}, c ∈ l → kget (l.map fun c => ((.inr c : Key), EF (tf c))) (.inr c) = some (EF (tf c))
  | x :: l, h => by
    rw [List.map_cons, kget_cons]
    by_cases e : x = c
    · subst e; simp
    · rw [if_neg fun z => e (Sum.inr.inj z)]
      exact get_map tf ((List.mem_cons.mp h).resolve_left fun z => e z.symm)
theorem MC_nodup (tf : Str → Fm) : (MC tf).Nodup := c8_nodup.filter _
theorem dict_MT (tf : Str → Fm) : ∃ kvs, fDict [MT tf] = some (.dct kvs) ∧ Tab kvs (MC tf) (tfM tf (MC tf)) := by
  refine ⟨(MC tf).map fun c => (.inr c, EF (tf c)), ?_, ?_, MC_nodup tf, fun c hc => (mem_MC.mp hc).1, fun c hc => ?_, fun c hc => if_neg hc⟩
  · have h := kmerge_new ((MC tf).map fun c => ((.inr c : Key), EF (tf c))) [] (by
      rw [List.nil_append, List.map_map]
      exact nodup_inr (MC_nodup tf))
    unfold MT
    simp only [fDict, pairs_MT, Option.map_some]
    rw [h]
    rfl
  · rw [List.map_map]; rfl
  · rw [get_map tf hc]
    unfold tfM
    rw [if_pos hc]
theorem loopF (ns : List Int) (u0 u1 : U) {tg tf0 : Str → Fm} {kvs0 : List (Key × U)} {ks0 : List Str} (T0 : Tab kvs0 ks0 tf0) (hg : ∀ c ∈ C8, ∀ x ∈ C8, Sml ((tg c).2 x)) (k : Nat) : ∀ (l : List Str) {kvs : List (Key × U)} {ks : List Str} {tf : Str → Fm} (x4 x5 : Option U), Tab kvs ks tf → (∀ c ∈ l, c ∈ C8) → ∃ kvs' ks' y4 y5 tf',
    forL (gTp 2 (gsCons (gNm 4) (gsCons (gNm 5) gsNil))) (sDput 2 (eVar 4) (eCallN 2 (mf_put_in ns) (aCons (eVar 5) (aCons (eVar 3) aNil)))) (l.map (pairF tg)) [some u0, some u1, some (.dct kvs), some (.dct kvs0), x4, x5] k = some (.nx [some u0, some u1, some (.dct kvs'), some (.dct kvs0), y4, y5], k) ∧ Tab kvs' ks' tf' ∧ ∀ c, tf' c = if c ∈ l then cmpF (tg c) tf0 else tf c
  | [], kvs, ks, tf, x4, x5, T, _ => ⟨kvs, ks, x4, x5, tf, rfl, T, by simp⟩
  | c :: l, kvs, ks, tf, x4, x5, T, h => by
    have hc := h c List.mem_cons_self
    have p := put_in_eq ns (tg c).1 T0.htb (hg c hc) k
    have T1 := T.put hc (cmpF (tg c) tf0)
    obtain ⟨kvs', ks', y4, y5, tf', e, T', ht⟩ := loopF ns u0 u1 T0 hg k l (some (.str c)) (some (EF (tg c))) T1 fun x hx => h x (List.mem_cons_of_mem _ hx)
    refine ⟨kvs', ks', y4, y5, tf', ?_, T', fun x => ?_⟩
    · have e1 : sDput 2 (eVar 4) (eCallN 2 (mf_put_in ns) (aCons (eVar 5) (aCons (eVar 3) aNil))) [some u0, some u1, some (.dct kvs), some (.dct kvs0), some (.str c), some (EF (tg c))] k = some (.nx [some u0, some u1, some (.dct (kput kvs (.inr c) (EF (cmpF (tg c) tf0)))), some (.dct kvs0), some (.str c), some (EF (tg c))], k) :=
        dput_run (call2_run rfl rfl p) rfl rfl rfl (by have h1 := T.le; have h2 := T.len; omega) rfl
      have g1 : gTp 2 (gsCons (gNm 4) (gsCons (gNm 5) gsNil)) (pairF tg c) [some u0, some u1, some (.dct kvs), some (.dct kvs0), x4, x5] = some [some u0, some u1, some (.dct kvs), some (.dct kvs0), some (.str c), some (EF (tg c))] := rfl
      rw [List.map_cons]
      simp only [forL, g1, Option.bind_some, e1]
      exact e
    · rw [ht]
      by_cases e1 : x ∈ l
      · rw [if_pos e1, if_pos (List.mem_cons_of_mem _ e1)]
      · rw [if_neg e1]
        by_cases e2 : x = c
        · subst e2
          rw [if_pos rfl, if_pos List.mem_cons_self]
        · rw [if_neg e2, if_neg fun z => (List.mem_cons.mp z).elim e2 e1]
theorem Tab.lc (ns : List Int) {kvs : List (Key × U)} {ks : List Str} {tf : Str → Fm} (T : Tab kvs ks tf) (u0 u1 u3 : U) (x5 : Option U) (k : Nat) :
    lcL (gNm 4) (bVal (eBin fNe (eIdx ns (eVar 2) (eVar 4)) (eTup (aCons (eC (.int 0)) (aCons (eTup (aCons (eTup (aCons (eVar 4) (aCons (eC (.int 1)) aNil))) aNil)) aNil))))) (eTup (aCons (eVar 4) (aCons (eIdx ns (eVar 2) (eVar 4)) aNil))) [some u0, some u1, some (.dct kvs), some u3, none, x5] ((C8.filter fun c => decide (c ∈ ks)).map U.str) k = some ((MC tf).map (pairF tf), k) := by
  have e2 := lcL_filter (g := gNm 4) (t := (bVal (eBin fNe (eIdx ns (eVar 2) (eVar 4)) (eTup (aCons (eC (.int 0)) (aCons (eTup (aCons (eTup (aCons (eVar 4) (aCons (eC (.int 1)) aNil))) aNil)) aNil)))))) (e := eTup (aCons (eVar 4) (aCons (eIdx ns (eVar 2) (eVar 4)) aNil))) (env := [some u0, some u1, some (.dct kvs), some u3, none, x5]) (k := k) U.str (pairF tf) (fun c => !eqb (EF (tf c)) (EF (ida c))) (xs := C8.filter fun c => decide (c ∈ ks)) (fun c hc => by
    obtain ⟨h1, h2⟩ := List.mem_filter.mp hc
    have h2 : c ∈ ks := by simpa using h2
    have i1 : eIdx ns (eVar 2) (eVar 4) [some u0, some u1, some (.dct kvs), some u3, some (.str c), x5] k = some (EF (tf c), k) := idx_run rfl rfl (T.idx h2)
    have i2 : eTup (aCons (eC (.int 0)) (aCons (eTup (aCons (eTup (aCons (eVar 4) (aCons (eC (.int 1)) aNil))) aNil)) aNil)) [some u0, some u1, some (.dct kvs), some u3, some (.str c), x5] k = some (EF (ida c), k) := by
      show _ = some (E 0 (dl c), k)
      rw [← E_itself h1]
      rfl
    exact ⟨[some u0, some u1, some (.dct kvs), some u3, some (.str c), x5], rfl, val_run (bin_run i1 i2 (fNe_eqb (E_pn _ _) (E_pn _ _))), fun _ => tup2_run rfl i1⟩)
  rw [List.filter_filter] at e2
  have e3 : (C8.filter fun c => (!eqb (EF (tf c)) (EF (ida c))) && decide (c ∈ ks)) = MC tf := by
    unfold MC
    refine List.filter_congr fun c hc => ?_
    by_cases hk : c ∈ ks
    · rw [decide_eq_true hk, Bool.and_true]
    · rw [T.out c hk, eqb_t rfl]
      rfl
  rw [e3] at e2
  exact e2
theorem both_eq (ns : List Int) (tf tg : Str → Fm) (hg : ∀ c ∈ C8, ∀ x ∈ C8, Sml ((tg c).2 x)) (k : Nat) : ∃ th, mf__law_both ns [MT tf, MT tg] k = some (MT th, k) ∧ ∀ c ∈ C8, ∀ φ, vl (th c) φ = vl (tg c) fun x => vl (tf x) φ := by
  obtain ⟨kvs0, d0, T0⟩ := dict_MT tf
  obtain ⟨kvs, ks, y4, y5, th, e, T, ht⟩ := loopF ns (MT tf) (MT tg) T0 hg k (MC tg) none none T0 fun c hc => (mem_MC.mp hc).1
  refine ⟨th, runM_rt (k' := k) ?_, fun c hc φ => ?_⟩
  · show m__law_both ns [some (MT tf), some (MT tg), none, none, none, none] k = _
    unfold m__law_both
    have e2 := Tab.lc ns T (MT tf) (MT tg) (.dct kvs0) y5 k
    have h8 : (MC th).length ≤ 8 := len8 _
    refine seq_run (par_run (fn_run1 rfl d0) (fn_run1 rfl d0)) (seq_run (for_run (items_run rfl rfl) e) (ret_run (fn_run1 (lcE_run (items_run (fn_run1 rfl T.sorted) rfl) e2 (by rw [List.length_map]; omega)) rfl)))
  · rw [ht]
    by_cases h : c ∈ MC tg
    · rw [if_pos h, vl_cmp]
      exact vl_ext _ fun x hx => tfM_vl φ hx
    · rw [if_neg h, tfM_vl φ hc]
      have : EF (tg c) = EF (ida c) := Classical.byContradiction fun z => h (mem_MC.mpr ⟨hc, z⟩)
      rw [EF_inj this, vl_ida hc]
theorem DGood.map {d : Dd} (h : DGood d) : DMap d := ⟨h.ok, h.sub.nodup c8_nodup, by have := h.le; omega⟩
theorem DGood.dl {d : Dd} (h : DGood d) : DL d 72 := fun p hp => FOk_L1 (h.fok p hp)
def turn : Dd := ⟨"turn", 1, [("a", 0, dl "c"), ("c", 0, dl "a")]⟩
def keep : Dd := ⟨"keep", 1, [("b", 0, dl "b")]⟩
theorem encTurn : encD turn = .tup [.str "turn", .int 1, .tup [.tup [.str "a", .tup [.int 0, .tup [.tup [.str "c", .int 1]]]], .tup [.str "c", .tup [.int 0, .tup [.tup [.str "a", .int 1]]]]]] := by
  rw [E_itself (c := "c") (by decide), E_itself (c := "a") (by decide)]
  rfl
theorem encKeep : encD keep = .tup [.str "keep", .int 1, .tup [.tup [.str "b", .tup [.int 0, .tup [.tup [.str "b", .int 1]]]]]] := by
  rw [E_itself (c := "b") (by decide)]
  rfl
theorem dl_sml (c x : Str) : Sml (dl c x) := by
  unfold dl
  split <;> exact ⟨by decide, by decide⟩
theorem dl_L1 {c : Str} (hc : c ∈ C8) (a : Int) : L1 (a, dl c) 1 := by
  have : (sm fun x => ab (dl c x)) = sm fun x => dl c x * 1 := sm_ext fun x _ => by
    unfold dl ab
    split <;> decide
  show (sm fun x => ab (dl c x)) ≤ 1
  rw [this, sm_one' (φ := fun _ => 1) hc]
  exact Int.le_refl _
theorem turn_map : DMap turn := ⟨fun p hp => by
  simp only [turn, List.mem_cons, List.not_mem_nil, or_false] at hp
  rcases hp with rfl | rfl <;> exact ⟨by decide, fun c _ => dl_sml _ c⟩, by decide, by decide⟩
theorem keep_map : DMap keep := ⟨fun p hp => by
  simp only [keep, List.mem_cons, List.not_mem_nil, or_false] at hp
  rcases hp with rfl; exact ⟨by decide, fun c _ => dl_sml _ c⟩, by decide, by decide⟩
theorem turn_dl : DL turn 1 := fun p hp => by
  simp only [turn, List.mem_cons, List.not_mem_nil, or_false] at hp
  rcases hp with rfl | rfl <;> exact dl_L1 (by decide) _
theorem keep_dl : DL keep 1 := fun p hp => by
  simp only [keep, List.mem_cons, List.not_mem_nil, or_false] at hp
  rcases hp with rfl; exact dl_L1 (by decide) _
def zn (nm : Str) : Str := "z" ++ cutS nm none (some 2)
theorem nm_len : ∀ nm ∈ NM, nm.length ≤ 4 := by decide +kernel
theorem zn_ok {nm : Str} (h : nm ∈ NM) : fSl (.str nm) none (some 2) = some (.str (cutS nm none (some 2))) ∧ fAdd (.str "z") (.str (cutS nm none (some 2))) = some (.str (zn nm)) := by
  have h1 := nm_len nm h
  have h2 := cutS_length nm none (some 2)
  constructor
  · simp only [fSl]
    rw [if_pos (by omega)]
  · simp only [fAdd]
    rw [if_pos (by rw [show ("z" : Str).length = 1 from rfl]; omega)]
    rfl
def ren (d : Dd) : Dd := ⟨zn d.nm, d.tk, d.ps⟩
abbrev en (x4 x5 x6 x7 x8 x9 x10 x11 x12 x13 : Option U) : En := [some .scr, some .town, some (encD turn), some (encD keep), x4, x5, x6, x7, x8, x9, x10, x11, x12, x13]
theorem pow72 : ∀ n ≤ 10, (72 : Int) ^ n ≤ 72 ^ 10 := by decide +kernel
theorem bound {a b T : List Dd} (ha : ∀ d ∈ a, DGood d) (hb : ∀ d ∈ b, ∃ e, DGood e ∧ d.ps = e.ps) (hl : a.length + b.length ≤ 10) (hT : ∀ d ∈ T, d = turn ∨ d = keep) : CB (TF (a ++ (b ++ T))) (72 ^ 10) := by
  have h1 : CB (TFs (a ++ b) ida) (72 ^ (a ++ b).length * 1) := TFs_bound (m := 72) (by decide) (a ++ b) (fun d hd => by
    rcases List.mem_append.mp hd with hd | hd
    · exact ⟨(DGood.map (ha d hd)).nd, DGood.dl (ha d hd)⟩
    · obtain ⟨e, he, ep⟩ := hb d hd
      refine ⟨?_, fun p hp => DGood.dl he p (ep ▸ hp)⟩
      unfold WR
      rw [ep]
      exact (DGood.map he).nd) ida_bound (by decide)
  have h2 := TFs_bound (m := 1) (by decide) T (tf := TFs (a ++ b) ida) (B := 72 ^ (a ++ b).length * 1) (fun d hd => by
    rcases hT d hd with rfl | rfl
    · exact ⟨turn_map.nd, turn_dl⟩
    · exact ⟨keep_map.nd, keep_dl⟩) h1 (Int.mul_nonneg (Int.pow_nonneg (by decide)) (by decide))
  rw [← TFs_append, List.append_assoc] at h2
  intro c hc x hx
  have h3 := h2 c hc x hx
  have h4 := pow72 (a ++ b).length (by rw [List.length_append]; exact hl)
  rw [Int.one_pow, Int.one_mul, Int.mul_one] at h3
  exact Int.le_trans h3 h4
theorem J_same {R : List Dd} (h : ∀ d ∈ R, (WR d).Nodup) (nm : Str) (tk : Int) (φ : Str → Int) : ∀ c ∈ C8, rn [JD nm tk R] φ c = rn R φ c := fun c hc => dn_JD h nm tk φ c hc
theorem J_nd (nm : Str) (tk : Int) (R : List Dd) : ∀ d ∈ [JD nm tk R], (WR d).Nodup := fun d hd => by
  rw [List.mem_singleton.mp hd]
  show ((JP R).map (·.1)).Nodup
  rw [JP_keys]
  exact c8_nodup.filter _
theorem J_MT {R : List Dd} (h : ∀ d ∈ R, (WR d).Nodup) (nm : Str) (tk : Int) : MT (TF [JD nm tk R]) = MT (TF R) := (alike_iff (J_nd nm tk R) h).mpr (J_same h nm tk)
theorem J_WS (nm : Str) (tk : Int) (R : List Dd) : WS [JD nm tk R] = WS R := by
  have e : ∀ c, wrb (JD nm tk R) c = decide (c ∈ WS R) := fun c => by
    unfold wrb
    rw [show WR (JD nm tk R) = WS R from JP_keys R]
  unfold WS at *
  refine List.filter_congr fun c hc => ?_
  simp only [List.any_cons, List.any_nil, Bool.or_false, e, List.mem_filter, Bool.decide_and, Bool.decide_eq_true]
  rw [decide_eq_true hc, Bool.true_and]
theorem J_enc {R : List Dd} (h : ∀ d ∈ R, (WR d).Nodup) (nm : Str) (tk : Int) : encD (JD nm tk [JD nm tk R]) = encD (JD nm tk R) := by
  have e : (JP [JD nm tk R]).map encP = (JP R).map encP := by
    unfold JP
    rw [J_WS, List.map_map, List.map_map]
    refine List.map_congr_left fun c hc => ?_
    have hc8 := (mem_WS.mp hc).1
    show U.tup [.str c, EF (TF [JD nm tk R] c)] = U.tup [.str c, EF (TF R c)]
    rw [EF_TF (J_nd nm tk R) hc8 (f := TF R c) fun φ => by rw [J_same h nm tk φ c hc8, vl_TF h φ hc8]]
  unfold encD
  rw [show (JD nm tk [JD nm tk R]).ps.map encP = (JD nm tk R).ps.map encP from e]
  rfl
end K33
set_option linter.all false
set_option Elab.async false
set_option maxRecDepth 100000
set_option maxHeartbeats 1000000
namespace K33
open PySem L2 UM Cm
local macro_rules
  | `(tactic| left) => `(tactic| first
    | with_reducible assumption
    | with_reducible exact c_run
    | ((with_reducible apply var_run); exact rfl)
    | ((with_reducible apply seq_run) <;> left)
    | ((with_reducible apply asgE) <;> left)
    | with_reducible exact set0
    | (apply setS; left)
    | ((with_reducible apply parN) <;> left)
    | ((with_reducible apply asgG_run) <;> left)
    | ((with_reducible apply gNm_run) <;> left)
    | ((with_reducible apply gTp2_run) <;> left)
    | ((with_reducible apply gTp3_run) <;> left)
    | ((with_reducible apply gTp3_encD) <;> left)
    | ((with_reducible apply if_skip) <;> left)
    | ((with_reducible apply val_run) <;> left)
    | ((with_reducible apply bin_run) <;> left)
    | ((with_reducible apply call1_run) <;> left)
    | ((with_reducible apply call2_run) <;> left)
    | ((with_reducible apply call3_run) <;> left)
    | ((with_reducible apply call4_run) <;> left)
    | ((with_reducible apply or_ff) <;> left)
    | ((with_reducible apply tru_run) <;> left)
    | ((with_reducible apply un_run) <;> left)
    | ((with_reducible apply not_f) <;> left)
    | ((with_reducible apply not_t) <;> left)
    | with_reducible exact tup0_run
    | ((with_reducible apply tup1_run) <;> left)
    | ((with_reducible apply tup2_run) <;> left)
    | ((with_reducible apply tup3_run) <;> left)
    | with_reducible exact lst0_run
    | ((with_reducible apply lst1_run) <;> left)
    | ((with_reducible apply lst2_run) <;> left)
    | ((with_reducible apply fn_run1) <;> left)
    | ((with_reducible apply fn2_run) <;> left)
    | ((with_reducible apply items_run) <;> left)
    | ((with_reducible apply enum_run) <;> left)
    | ((with_reducible apply idx_run) <;> left)
    | ((with_reducible apply sl_run) <;> left)
    | with_reducible exact no_run
    | ((with_reducible apply yes_run) <;> left)
    | ((with_reducible apply imm_run) <;> left)
    | ((with_reducible apply ret_run) <;> left)
    | ((with_reducible apply drop_run) <;> left)
    | ((with_reducible apply forS_run) <;> left)
    | ((with_reducible apply lcE_run) <;> left)
    | ((with_reducible apply tupG_run) <;> left)
    | with_reducible exact skip_run
    | with_reducible exact fAdd_i _ _
    | with_reducible exact fSub_i _ _
    | with_reducible exact fNeg_i _
    | with_reducible exact items_t _
    | with_reducible exact items_l _
    | with_reducible exact itemsE_t _
    | with_reducible exact fTuple_l _
    | with_reducible exact fTuple_t _
    | with_reducible exact tru_b _ _
    | skip)
theorem drop_two (r : List Dd) (n : Nat) : ∃ T : List Dd, (r ++ [turn, keep]).drop n = r.drop n ++ T ∧ ∀ d ∈ T, d = turn ∨ d = keep := by
  refine ⟨[turn, keep].drop (n - r.length), List.drop_append, fun d hd => ?_⟩
  have := List.mem_of_mem_drop hd
  simpa using this
theorem turn1 (ns : List Int) {R : List Dd} (hR : ∀ d ∈ R, DMap d) (hB : CB (TF R) (72 ^ 10)) {A B : U} (hAB : fAdd A B = some (encR R)) (φ : Str → Int) {c : Str} (hc : c ∈ C8) (x4 x7 x8 x9 x10 : Option U) (k : Nat) :
    bd1 ns (en x4 (some A) (some B) x7 x8 x9 x10 (some (St φ)) (some (.str c)) (some (EF (TF R c)))) k = some (.nx (en x4 (some A) (some B) x7 x8 x9 x10 (some (St φ)) (some (.str c)) (some (EF (TF R c)))), k) := by
  have r1 := run_eq ns φ (r := R) (fun d hd => (hR d hd).ok) k
  have w1 := worth_at_eq ns (rn R φ) hc k
  have w2 := worth_of_eq ns (TF R c).1 (φ := (TF R c).2) (w := nf φ) (fun x hx => .inl (CB_sml hB (by decide) hc x hx)) k
  have e : ((TF R c).1 + sm fun x => (TF R c).2 x * co (nf φ) x) = rn R φ c := by
    rw [← vl_TF (fun d hd => (hR d hd).nd) φ hc]
    unfold vl
    rw [sm_ext fun x hx => by rw [co_nf hx]]
  rw [e] at w2
  have w2 : mf_worth_of ns [EF (TF R c), .dct (emb (nf φ))] k = some (.int (rn R φ c), k) := w2
  have d1 := dict_St φ
  have n1 := fNe_i (rn R φ c)
  unfold bd1
  left
theorem turn2 (ns : List Int) (x4 x5 x6 x7 x8 x9 x10 x11 x12 x13 : Option U) {k : Nat} (hk : k < 1000000) : ∃ y5 y6 y7 y8 y9 y10 y11 y12 y13 k',
    bd2 ns (en x4 x5 x6 x7 x8 x9 x10 x11 x12 x13) k = some (.nx (en x4 y5 y6 y7 y8 y9 y10 y11 y12 y13), k') ∧ k' ≤ k + 8000 := by
  obtain ⟨r1, k1, e1, _, g1, h1⟩ := row_eq ns (most := 5) (by decide) (k := k) (by omega)
  obtain ⟨r2, k2, e2, _, g2, h2⟩ := row_eq ns (most := 5) (by decide) (k := k1) (by omega)
  have e1 : mf__law_row ns [.scr, .town, .int 5] k = some (encR r1, k1) := e1
  have e2 : mf__law_row ns [.scr, .town, .int 5] k1 = some (encR r2, k2) := e2
  obtain ⟨v, e3, v0, v1⟩ := draw_eq ns (m := 3) (k := k2) (by decide) (by omega)
  obtain ⟨φ, e4⟩ := store_eq ns (k := k2 + 1) (by omega)
  obtain ⟨T, hT, hT2⟩ := drop_two (r2.map ren) v.toNat
  have hl1 := h1.le
  have hl2 := h2.le
  generalize hS : (r2.map ren ++ [turn, keep]).drop v.toNat = S at hT
  have hSl : S.length ≤ 7 := by
    rw [← hS, List.length_drop, List.length_append, List.length_map]
    simp only [List.length_cons, List.length_nil]
    omega
  have hM1 : ∀ d ∈ r1, DMap d := fun d hd => DGood.map (h1.g d hd)
  have hMS : ∀ d ∈ S, DMap d := fun d hd => by
    rw [hT] at hd
    rcases List.mem_append.mp hd with hd | hd
    · obtain ⟨e, he, rfl⟩ := List.mem_map.mp (List.mem_of_mem_drop hd)
      have := DGood.map (h2.g e he)
      exact ⟨this.ok, this.nd, this.le⟩
    · rcases hT2 d hd with rfl | rfl
      · exact turn_map
      · exact keep_map
  have hM : ∀ d ∈ r1 ++ S, DMap d := fun d hd => (List.mem_append.mp hd).elim (hM1 d) (hMS d)
  have hB : CB (TF (r1 ++ S)) (72 ^ 10) := by
    rw [hT]
    refine bound h1.g (fun d hd => ?_) ?_ hT2
    · obtain ⟨e, he, rfl⟩ := List.mem_map.mp (List.mem_of_mem_drop hd)
      exact ⟨e, h2.g e he, rfl⟩
    · rw [List.length_drop, List.length_map]; omega
  have hBS : CB (TF S) (72 ^ 10) := by
    rw [hT]
    refine bound (a := []) (by simp) (fun d hd => ?_) ?_ hT2
    · obtain ⟨e, he, rfl⟩ := List.mem_map.mp (List.mem_of_mem_drop hd)
      exact ⟨e, h2.g e he, rfl⟩
    · rw [List.length_drop, List.length_map]; simp only [List.length_nil]; omega
  have hN : ∀ d ∈ r1 ++ S, (WR d).Nodup := fun d hd => (hM d hd).nd
  have hN1 : ∀ d ∈ r1, (WR d).Nodup := fun d hd => (hM1 d hd).nd
  have hNS : ∀ d ∈ S, (WR d).Nodup := fun d hd => (hMS d hd).nd
  have hJ : DMap (JD "all" 3 (r1 ++ S)) := JD_map hB (by decide)
  -- what is asked, piece by piece
  have lc1 : lcL (gTp 3 (gsCons (gNm 7) (gsCons (gNm 8) (gsCons (gNm 9) gsNil)))) bYes (eTup (aCons (eBin fAdd (eC (.str "z")) (eSl (eVar 7) oNo (oYes (eC (.int 2))))) (aCons (eVar 8) (aCons (eVar 9) aNil)))) (wipeE (en x4 (some (encR r1)) x6 x7 x8 x9 x10 x11 x12 x13) [7, 8, 9]) (r2.map encD) k2 = some (r2.map fun d => encD (ren d), k2) :=
    lcL_map encD (fun d => encD (ren d)) fun d hd => by
      obtain ⟨z1, z2⟩ := zn_ok (h2.g d hd).nm
      exact ⟨en x4 (some (encR r1)) x6 (some (.str d.nm)) (some (.int d.tk)) (some (.tup (d.ps.map encP))) x10 x11 x12 x13, rfl, rfl, tup3_run (bin_run rfl (sl_run rfl rfl rfl z1) z2) rfl rfl⟩
  have lc2 : (r2.map fun d => encD (ren d)).length ≤ 1000 := by rw [List.length_map]; omega
  have a1 : fAdd (.tup (r2.map fun d => encD (ren d))) (.tup [encD turn, encD keep]) = some (encR (r2.map ren ++ [turn, keep])) := by
    rw [fAdd_t (by rw [List.length_map]; simp only [List.length_cons, List.length_nil]; omega)]
    unfold encR
    rw [List.map_append, List.map_map]
    rfl
  have a2 : fSl (encR (r2.map ren ++ [turn, keep])) (some v) none = some (encR S) := by
    show fSl (.tup ((r2.map ren ++ [turn, keep]).map encD)) _ _ = _
    rw [fSl_fromI _ v0, ← List.map_drop, hS]
    rfl
  have a3 : fAdd (encR r1) (encR S) = some (encR (r1 ++ S)) := by
    show fAdd (.tup (r1.map encD)) (.tup (S.map encD)) = _
    rw [fAdd_t (by rw [List.length_map, List.length_map]; omega), ← List.map_append]
    rfl
  have m1 := map_of_eq ns hM (k2 + 1)
  have m2 := map_of_eq ns hM1 (k2 + 1)
  have m3 := map_of_eq ns hMS (k2 + 1)
  have m4 : mf__law_both ns [MT (TF r1), MT (TF S)] (k2 + 1) = some (MT (TF (r1 ++ S)), k2 + 1) := by
    obtain ⟨th, e, ht⟩ := both_eq ns (TF r1) (TF S) (fun c hc x hx => CB_sml hBS (by decide) hc x hx) (k2 + 1)
    rw [e, show MT th = MT (TF (r1 ++ S)) from MT_ext fun c hc => EF_ext fun φ => by
      rw [ht c hc, vl_TF hN φ hc, vl_TF hNS _ hc, rn_append]
      exact rn_ext S (fun x hx => vl_TF hN1 φ hx) c hc]
  have n1 := fNe_same (MT_pn (TF (r1 ++ S)))
  have j1 := joined_eq ns hM "all" 3 (k2 + 1)
  have w1 : mf_writes ns [encD (JD "all" 3 (r1 ++ S))] (k2 + 1 + 8) = some (strT (WS (r1 ++ S)), k2 + 1 + 8) := by
    rw [writes_eq ns (by have := hJ.le; omega)]
    rw [show WR (JD "all" 3 (r1 ++ S)) = WS (r1 ++ S) from JP_keys _]
  have w2 := written_eq ns hM (k2 + 1 + 8)
  have n2 := fNe_same (strs_pn (l := WS (r1 ++ S)) fun c hc => c8_ok c (mem_WS.mp hc).1)
  have s1 : fSl (encD (JD "all" 3 (r1 ++ S))) none (some 2) = some (.tup [.str "all", .int 3]) := rfl
  have n3 : fNe (.tup [.str "all", .int 3]) (.tup [.str "all", .int 3]) = some (.bl false) := fNe_same (n := 1) (.tup fun w hw => by
    rcases List.mem_cons.mp hw with rfl | hw
    · exact .str _ (by decide +kernel)
    · rcases List.mem_cons.mp hw with rfl | hw
      · exact .int _ _
      · cases hw)
  have d1 : mf_done ns [St φ, encD (JD "all" 3 (r1 ++ S))] (k2 + 1 + 8) = some (St (rn (r1 ++ S) φ), k2 + 1 + 8) := by
    rw [done_eq ns φ hJ.ok, St_ext (dn_JD hN "all" 3 φ)]
  have r1' := run_eq ns φ (r := r1 ++ S) (fun d hd => (hM d hd).ok) (k2 + 1 + 8)
  have n4 := fNe_same (St_pn (rn (r1 ++ S) φ))
  have j2 : mf_joined ns [.str "all", .int 3, .tup [encD (JD "all" 3 (r1 ++ S))]] (k2 + 1 + 8) = some (encD (JD "all" 3 (r1 ++ S)), k2 + 1 + 8) := by
    have := joined_eq ns (R := [JD "all" 3 (r1 ++ S)]) (fun d hd => by rw [List.mem_singleton.mp hd]; exact hJ) "all" 3 (k2 + 1 + 8)
    rw [J_enc hN] at this
    exact this
  have n5 : fNe (encD (JD "all" 3 (r1 ++ S))) (encD (JD "all" 3 (r1 ++ S))) = some (.bl false) := fNe_same (n := 6) (.tup fun w hw => by
    rcases List.mem_cons.mp hw with rfl | hw
    · exact .str _ (show PyData.strOk "all" = true by decide +kernel)
    · rcases List.mem_cons.mp hw with rfl | hw
      · exact .int _ _
      · rcases List.mem_cons.mp hw with rfl | hw
        · refine .tup fun w hw => ?_
          obtain ⟨p, hp, rfl⟩ := List.mem_map.mp hw
          obtain ⟨c, hc, rfl⟩ := List.mem_map.mp hp
          exact pairF_pn (TF (r1 ++ S)) (mem_WS.mp hc).1
        · cases hw)
  have l1 : mf_are_alike ns [.tup [encD (JD "all" 3 (r1 ++ S))], encR (r1 ++ S)] (k2 + 1 + 8) = some (.bl true, k2 + 1 + 8) := by
    have := are_alike_eq ns (R := [JD "all" 3 (r1 ++ S)]) (fun d hd => by rw [List.mem_singleton.mp hd]; exact hJ) hM (k2 + 1 + 8)
    rw [J_MT hN, eqb_t rfl] at this
    exact this
  have i1 := is_idle_eq ns hJ (k2 + 1 + 8)
  rw [J_MT hN] at i1
  have m5 := map_of_eq ns hM (k2 + 1 + 8)
  have q1 := fEq_eqb (MT_pn (TF (r1 ++ S))) (nil_pn 0)
  have n6 : fNe (.bl (eqb (MT (TF (r1 ++ S))) (.tup []))) (.bl (eqb (MT (TF (r1 ++ S))) (.tup []))) = some (.bl false) := fNe_self (.bl 0 _) (by decide)
  obtain ⟨env', f1, y12, y13, rfl⟩ := forL_fam (g := gTp 2 (gsCons (gNm 12) (gsCons (gNm 13) gsNil))) (body := bd1 ns) (k := k2 + 1 + 8) (us := (MC (TF (r1 ++ S))).map (pairF (TF (r1 ++ S)))) (P := fun env => ∃ y12 y13, env = en x4 (some (encR r1)) (some (encR S)) x7 x8 x9 (some (encD (JD "all" 3 (r1 ++ S)))) (some (St φ)) y12 y13) (fun u hu env hP => by
    obtain ⟨y12, y13, rfl⟩ := hP
    obtain ⟨c, hc, rfl⟩ := List.mem_map.mp hu
    exact ⟨en x4 (some (encR r1)) (some (encR S)) x7 x8 x9 (some (encD (JD "all" 3 (r1 ++ S)))) (some (St φ)) (some (.str c)) (some (EF (TF (r1 ++ S) c))), _, rfl, turn1 ns hM hB a3 φ (mem_MC.mp hc).1 x4 x7 x8 x9 _ _, _, _, rfl⟩) (en x4 (some (encR r1)) (some (encR S)) x7 x8 x9 (some (encD (JD "all" 3 (r1 ++ S)))) (some (St φ)) x12 x13) ⟨x12, x13, rfl⟩
  refine ⟨some (encR r1), some (encR S), x7, x8, x9, some (encD (JD "all" 3 (r1 ++ S))), some (St φ), y12, y13, k2 + 1 + 8, ?_, by omega⟩
  have t1 : itemsU (encR r2) = some (r2.map encD) := rfl
  have t2 : itemsU (MT (TF (r1 ++ S))) = some ((MC (TF (r1 ++ S))).map (pairF (TF (r1 ++ S)))) := rfl
  unfold bd2
  left
end K33
set_option linter.all false
set_option Elab.async false
set_option maxRecDepth 100000
set_option maxHeartbeats 1000000
namespace K33
open PySem L2 UM Cm
local macro_rules
  | `(tactic| left) => `(tactic| first
    | with_reducible assumption
    | with_reducible exact c_run
    | ((with_reducible apply var_run); exact rfl)
    | ((with_reducible apply seq_run) <;> left)
    | ((with_reducible apply asgE) <;> left)
    | with_reducible exact set0
    | (apply setS; left)
    | ((with_reducible apply parN) <;> left)
    | ((with_reducible apply asgG_run) <;> left)
    | ((with_reducible apply gNm_run) <;> left)
    | ((with_reducible apply gTp2_run) <;> left)
    | ((with_reducible apply gTp3_run) <;> left)
    | ((with_reducible apply gTp3_encD) <;> left)
    | ((with_reducible apply if_skip) <;> left)
    | ((with_reducible apply val_run) <;> left)
    | ((with_reducible apply bin_run) <;> left)
    | ((with_reducible apply call1_run) <;> left)
    | ((with_reducible apply call2_run) <;> left)
    | ((with_reducible apply call3_run) <;> left)
    | ((with_reducible apply call4_run) <;> left)
    | ((with_reducible apply or_ff) <;> left)
    | ((with_reducible apply tru_run) <;> left)
    | ((with_reducible apply un_run) <;> left)
    | ((with_reducible apply not_f) <;> left)
    | ((with_reducible apply not_t) <;> left)
    | with_reducible exact tup0_run
    | ((with_reducible apply tup1_run) <;> left)
    | ((with_reducible apply tup2_run) <;> left)
    | ((with_reducible apply tup3_run) <;> left)
    | with_reducible exact lst0_run
    | ((with_reducible apply lst1_run) <;> left)
    | ((with_reducible apply lst2_run) <;> left)
    | ((with_reducible apply fn_run1) <;> left)
    | ((with_reducible apply fn2_run) <;> left)
    | ((with_reducible apply items_run) <;> left)
    | ((with_reducible apply enum_run) <;> left)
    | ((with_reducible apply idx_run) <;> left)
    | ((with_reducible apply sl_run) <;> left)
    | with_reducible exact no_run
    | ((with_reducible apply yes_run) <;> left)
    | ((with_reducible apply imm_run) <;> left)
    | ((with_reducible apply ret_run) <;> left)
    | ((with_reducible apply drop_run) <;> left)
    | ((with_reducible apply forS_run) <;> left)
    | ((with_reducible apply lcE_run) <;> left)
    | ((with_reducible apply tupG_run) <;> left)
    | with_reducible exact skip_run
    | with_reducible exact fAdd_i _ _
    | with_reducible exact fSub_i _ _
    | with_reducible exact fNeg_i _
    | with_reducible exact items_t _
    | with_reducible exact items_l _
    | with_reducible exact itemsE_t _
    | with_reducible exact fTuple_l _
    | with_reducible exact fTuple_t _
    | with_reducible exact tru_b _ _
    | skip)
theorem vl_dl {c : Str} (hc : c ∈ C8) (φ : Str → Int) : vl (0, dl c) φ = φ c := vl_ida hc φ
theorem dn_keep (φ : Str → Int) : ∀ c ∈ C8, dn keep φ c = φ c := fun c hc => by
  by_cases h : c = "b"
  · subst h
    rw [dn_in (d := keep) (p := ("b", 0, dl "b")) keep_map.nd (by simp [keep])]
    exact vl_dl (by decide) φ
  · exact dn_out (by simpa [keep] using h)
theorem dn_turn (φ : Str → Int) (c : Str) : dn turn φ c = if c = "a" then φ "c" else if c = "c" then φ "a" else φ c := by
  by_cases h : c = "a"
  · subst h
    rw [if_pos rfl, dn_in (d := turn) (p := ("a", 0, dl "c")) turn_map.nd (by simp [turn])]
    exact vl_dl (by decide) φ
  · rw [if_neg h]
    by_cases h2 : c = "c"
    · subst h2
      rw [if_pos rfl, dn_in (d := turn) (p := ("c", 0, dl "a")) turn_map.nd (by simp [turn])]
      exact vl_dl (by decide) φ
    · rw [if_neg h2]
      exact dn_out (by simp [turn, h, h2])
theorem one_nd {d : Dd} (h : (WR d).Nodup) : ∀ x ∈ [d], (WR x).Nodup := fun x hx => by rw [List.mem_singleton.mp hx]; exact h
theorem MT_ida {R : List Dd} (h : ∀ d ∈ R, (WR d).Nodup) (e : ∀ φ, ∀ c ∈ C8, rn R φ c = φ c) : MT (TF R) = .tup [] := MT_nil.mpr fun c hc => EF_TF h hc fun φ => by rw [e φ c hc]; exact vl_ida hc φ
theorem idle_keep : MT (TF [keep]) = .tup [] := MT_ida (one_nd keep_map.nd) fun φ c hc => dn_keep φ c hc
theorem ca : ¬ ("c" : Str) = "a" := by decide +kernel
theorem idle_turn : MT (TF [turn]) ≠ .tup [] := fun e => by
  have h := MT_nil.mp e "a" (by decide)
  have h1 := EF_inj h fun c => if c = "a" then 1 else 0
  rw [vl_TF (one_nd turn_map.nd) _ (by decide), vl_ida (by decide)] at h1
  have h2 : rn [turn] (fun c => if c = "a" then 1 else 0) "a" = dn turn (fun c => if c = "a" then 1 else 0) "a" := rfl
  rw [h2, dn_turn, if_pos rfl] at h1
  simp only [if_neg ca, if_true] at h1
  exact absurd h1 (by decide)
theorem turn_turn : MT (TF [turn, turn]) = .tup [] := MT_ida (fun x hx => by
  rcases List.mem_cons.mp hx with rfl | hx
  · exact turn_map.nd
  · rw [List.mem_singleton.mp hx]; exact turn_map.nd) fun φ c hc => by
  show dn turn (dn turn φ) c = φ c
  rw [dn_turn, dn_turn, dn_turn, dn_turn]
  by_cases h : c = "a"
  · subst h
    simp only [if_true, if_neg ca]
  · by_cases h2 : c = "c"
    · subst h2
      simp only [if_true, if_neg ca]
    · simp only [if_neg h, if_neg h2]
theorem math (ns : List Int) : ∃ k', m_law ns [some .scr, some .town, none, none, none, none, none, none, none, none, none, none, none, none] 0 = some (.rt (.bl true), k') := by
  rw [bd_eq]
  obtain ⟨env', k', h1, ⟨x4, x5, x6, x7, x8, x9, x10, x11, x12, x13, rfl⟩, h2⟩ := forL_ind (g := gNm 4) (body := bd2 ns) (fun us env k => (∃ x4 x5 x6 x7 x8 x9 x10 x11 x12 x13, env = en x4 x5 x6 x7 x8 x9 x10 x11 x12 x13) ∧ k + 8000 * us.length ≤ 100000) (fun u us env k h => by
    obtain ⟨⟨x4, x5, x6, x7, x8, x9, x10, x11, x12, x13, rfl⟩, hk⟩ := h
    simp only [List.length_cons] at hk
    obtain ⟨y5, y6, y7, y8, y9, y10, y11, y12, y13, k', e, hk'⟩ := turn2 ns (some u) x5 x6 x7 x8 x9 x10 x11 x12 x13 (k := k) (by omega)
    exact ⟨en (some u) x5 x6 x7 x8 x9 x10 x11 x12 x13, _, k', rfl, e, ⟨_, _, _, _, _, _, _, _, _, _, rfl⟩, by omega⟩) ((List.range 4).map fun (i : Nat) => U.int i) (en none none none none none none none none none none) 0 ⟨⟨_, _, _, _, _, _, _, _, _, _, rfl⟩, by simp⟩
  have one : ∀ {d : Dd}, DMap d → ∀ x ∈ [d], DMap x := fun {d} h x hx => by rw [List.mem_singleton.mp hx]; exact h
  have i1 := is_idle_eq ns turn_map k'
  rw [eqb_f idle_turn] at i1
  have i2 := is_idle_eq ns keep_map k'
  rw [eqb_t idle_keep] at i2
  have m1 : mf_map_of ns [.tup [encD turn, encD turn]] k' = some (.tup [], k') := by
    have := map_of_eq ns (R := [turn, turn]) (fun x hx => by
      rcases List.mem_cons.mp hx with rfl | hx
      · exact turn_map
      · rw [List.mem_singleton.mp hx]; exact turn_map) k'
    rw [turn_turn] at this
    exact this
  have n1 : fNe (.tup []) (.tup []) = some (.bl false) := fNe_same (nil_pn 0)
  have l1 : mf_are_alike ns [.tup [encD keep], .tup []] k' = some (.bl true, k') := by
    have := are_alike_eq ns (R := [keep]) (S := []) (one keep_map) (by simp) k'
    rw [idle_keep, show MT (TF []) = .tup [] from MT_ida (R := []) (by simp) fun _ _ _ => rfl, eqb_t rfl] at this
    exact this
  refine ⟨k', seq_run (asg_run (u := encD turn) (by rw [encTurn]; left)) (seq_run (asg_run (u := encD keep) (by rw [encKeep]; left)) (seq_run (for_run (rng_nat (w := 4) rfl (by decide)) h1) (seq_run (k1 := k') (env' := en x4 x5 x6 x7 x8 x9 x10 x11 x12 x13) (if_skip ?_) rfl)))⟩
  left
end K33
set_option linter.all false
set_option Elab.async false
set_option maxRecDepth 100000
namespace UM
open PySem L2
theorem law_start {K : PySem.W.Frag} {Ps : Tb} {N : List Str} {a l : Addr} {H : Hp} (hS : SqL K H a (Ps.ns.map V.int)) (hT : ∀ P ∈ Ps.ps, H P = some (.tbl #[])) (hl : H l = none) :
    SR K Ps ⟨l, a, K, Ps, upd H l (.lst []), fun _ => False⟩ [] (fun _ => False) (upd H l (.lst [])) ((start N [.ref a]).set 1 (some (.ref l))) ((([U.scr].map some) ++ List.replicate (N.length - [U.scr].length) none).set 1 (some .town)) 0 := by
  have old : ∀ {b : Addr} {u : HO}, H b = some u → upd H l (.lst []) b = some u := fun {b u} e => by
    rw [upd_ne (ne_of_none e hl)]; exact e
  have hS' : SqL K (upd H l (.lst [])) a (Ps.ns.map V.int) := by
    rcases hS with (h | ⟨o, h⟩) | h
    · exact .inl (.inl (old h))
    · exact .inl (.inr ⟨o, old h⟩)
    · exact .inr h
  have B : Base ⟨l, a, K, Ps, upd H l (.lst []), fun _ => False⟩ (fun _ => False) (upd H l (.lst [])) 0 := by
    refine begin_base hS' ?_ upd_same (fun x hx => hx.elim) (fun hx => hx) (fun P hP => old (hT P hP))
    rcases hS with (h | ⟨o, h⟩) | h
    · exact .inl ⟨ne_of_none h hl, fun hx => hx⟩
    · exact .inl ⟨ne_of_none h hl, fun hx => hx⟩
    · exact .inr h
  have S0 := SR.start (vs := [.ref a]) (us := [.scr]) N (K := K) (Ps := Ps) rfl rfl B (.cons .scr .nil)
  exact S0.put (i := 1) (v := .ref l) (u := .town) (by simp) .town
end UM
set_option linter.all false
set_option Elab.async false
set_option maxRecDepth 100000
set_option maxHeartbeats 4000000
namespace K33
open PySem PySem.Spec PyProof.Rows L2 UM
open Cm
theorem ok_law {P : Program} {w : World} {K : PySem.W.Frag} {mg : Str → Option Value} {base : Heap} {Ps : Tb} {f : Addr} {f__law_row : Addr} {fd__law_row : FuncData} {f__law_draw : Addr} {fd__law_draw : FuncData} {f_map_of : Addr} {fd_map_of : FuncData} {f__law_both : Addr} {fd__law_both : FuncData} {f__law_store : Addr} {fd__law_store : FuncData} {f_joined : Addr} {fd_joined : FuncData} {f_writes : Addr} {fd_writes : FuncData} {f__law_written : Addr} {fd__law_written : FuncData} {f_done : Addr} {fd_done : FuncData} {f_run : Addr} {fd_run : FuncData} {f_are_alike : Addr} {fd_are_alike : FuncData} {f_is_idle : Addr} {fd_is_idle : FuncData} {f_worth_at : Addr} {fd_worth_at : FuncData} {f_worth_of : Addr} {fd_worth_of : FuncData} {fd : FuncData} (F : Fun K "law" "law" s_law f fd) (G__law_row : FnOk P w K mg base CX0 4 f__law_row fd__law_row ["_law_script", "_law_town", "_law_most"] (spM K Ps 3 (mf__law_row Ps.ns))) (b__law_row : Binds K fd__law_row ["_law_script", "_law_town", "_law_most"] []) (k__law_row : PySem.W.keepIn K (.ref f__law_row) = true) (m__law_row : mg "_law_row" = some (.ref f__law_row)) (G__law_draw : FnOk P w K mg base CX0 1 f__law_draw fd__law_draw ["_law_script", "_law_town", "_law_many"] (spM K Ps 3 (mf__law_draw Ps.ns))) (b__law_draw : Binds K fd__law_draw ["_law_script", "_law_town", "_law_many"] []) (k__law_draw : PySem.W.keepIn K (.ref f__law_draw) = true) (m__law_draw : mg "_law_draw" = some (.ref f__law_draw)) (G_map_of : FnOk P w K mg base CX0 6 f_map_of fd_map_of ["row"] (spM K Ps 1 (mf_map_of Ps.ns))) (b_map_of : Binds K fd_map_of ["row"] []) (k_map_of : PySem.W.keepIn K (.ref f_map_of) = true) (m_map_of : mg "map_of" = some (.ref f_map_of)) (G__law_both : FnOk P w K mg base CX0 5 f__law_both fd__law_both ["_law_first", "_law_second"] (spM K Ps 2 (mf__law_both Ps.ns))) (b__law_both : Binds K fd__law_both ["_law_first", "_law_second"] []) (k__law_both : PySem.W.keepIn K (.ref f__law_both) = true) (m__law_both : mg "_law_both" = some (.ref f__law_both)) (G__law_store : FnOk P w K mg base CX0 3 f__law_store fd__law_store ["_law_script", "_law_town"] (spM K Ps 2 (mf__law_store Ps.ns))) (b__law_store : Binds K fd__law_store ["_law_script", "_law_town"] []) (k__law_store : PySem.W.keepIn K (.ref f__law_store) = true) (m__law_store : mg "_law_store" = some (.ref f__law_store)) (G_joined : FnOk P w K mg base CX0 6 f_joined fd_joined ["name", "ticks", "row"] (spM K Ps 3 (mf_joined Ps.ns))) (b_joined : Binds K fd_joined ["name", "ticks", "row"] []) (k_joined : PySem.W.keepIn K (.ref f_joined) = true) (m_joined : mg "joined" = some (.ref f_joined)) (G_writes : FnOk P w K mg base CX0 2 f_writes fd_writes ["deed"] (spM K Ps 1 (mf_writes Ps.ns))) (b_writes : Binds K fd_writes ["deed"] []) (k_writes : PySem.W.keepIn K (.ref f_writes) = true) (m_writes : mg "writes" = some (.ref f_writes)) (G__law_written : FnOk P w K mg base CX0 3 f__law_written fd__law_written ["_law_row_here"] (spM K Ps 1 (mf__law_written Ps.ns))) (b__law_written : Binds K fd__law_written ["_law_row_here"] []) (k__law_written : PySem.W.keepIn K (.ref f__law_written) = true) (m__law_written : mg "_law_written" = some (.ref f__law_written)) (G_done : FnOk P w K mg base CX0 4 f_done fd_done ["store", "deed"] (spM K Ps 2 (mf_done Ps.ns))) (b_done : Binds K fd_done ["store", "deed"] []) (k_done : PySem.W.keepIn K (.ref f_done) = true) (m_done : mg "done" = some (.ref f_done)) (G_run : FnOk P w K mg base CX0 5 f_run fd_run ["store", "row"] (spM K Ps 2 (mf_run Ps.ns))) (b_run : Binds K fd_run ["store", "row"] []) (k_run : PySem.W.keepIn K (.ref f_run) = true) (m_run : mg "run" = some (.ref f_run)) (G_are_alike : FnOk P w K mg base CX0 7 f_are_alike fd_are_alike ["one", "other"] (spM K Ps 2 (mf_are_alike Ps.ns))) (b_are_alike : Binds K fd_are_alike ["one", "other"] []) (k_are_alike : PySem.W.keepIn K (.ref f_are_alike) = true) (m_are_alike : mg "are_alike" = some (.ref f_are_alike)) (G_is_idle : FnOk P w K mg base CX0 7 f_is_idle fd_is_idle ["deed"] (spM K Ps 1 (mf_is_idle Ps.ns))) (b_is_idle : Binds K fd_is_idle ["deed"] []) (k_is_idle : PySem.W.keepIn K (.ref f_is_idle) = true) (m_is_idle : mg "is_idle" = some (.ref f_is_idle)) (G_worth_at : FnOk P w K mg base CX0 1 f_worth_at fd_worth_at ["store", "cell"] (spM K Ps 2 (mf_worth_at Ps.ns))) (b_worth_at : Binds K fd_worth_at ["store", "cell"] []) (k_worth_at : PySem.W.keepIn K (.ref f_worth_at) = true) (m_worth_at : mg "worth_at" = some (.ref f_worth_at)) (G_worth_of : FnOk P w K mg base CX0 1 f_worth_of fd_worth_of ["form", "table"] (spM K Ps 2 (mf_worth_of Ps.ns))) (b_worth_of : Binds K fd_worth_of ["form", "table"] []) (k_worth_of : PySem.W.keepIn K (.ref f_worth_of) = true) (m_worth_of : mg "worth_of" = some (.ref f_worth_of)) (z_range : mg "range" = none) (z_tuple : mg "tuple" = none) (z_dict : mg "dict" = none) : FnOk P w K mg base CX0 8 f fd ["_law_script"] (spLaw K Ps) := by
  refine F.ok sc_law (fun vs H Q E h => ?_) (fun cdv A outer s H vs Q E hr h => ?_)
  · obtain ⟨a, rfl, _⟩ := h
    rfl
  obtain ⟨a, rfl, hS, hT, hna, q⟩ := h
  obtain ⟨rest⟩ := rest_law (P := P) (w := w) (K := K) (mg := mg) (base := base) (Ps := Ps) G__law_row b__law_row k__law_row m__law_row G__law_draw b__law_draw k__law_draw m__law_draw G_map_of b_map_of k_map_of m_map_of G__law_both b__law_both k__law_both m__law_both G__law_store b__law_store k__law_store m__law_store G_joined b_joined k_joined m_joined G_writes b_writes k_writes m_writes G__law_written b__law_written k__law_written m__law_written G_done b_done k_done m_done G_run b_run k_run m_run G_are_alike b_are_alike k_are_alike m_are_alike G_is_idle b_is_idle k_is_idle m_is_idle G_worth_at b_worth_at k_worth_at m_worth_at G_worth_of b_worth_of k_worth_of m_worth_of z_range z_tuple z_dict cdv A outer s H E hr
  have hb : ∃ p1 p2 p3, defBody s_law = .Assign [.Name "_law_town" p1] (.List [] p2) p3 :: (defBody s_law).tail := ⟨_, _, _, rfl⟩
  obtain ⟨p1, p2, p3, hb⟩ := hb
  generalize (defBody s_law).tail = tl at rest hb
  rw [hb]
  refine ⟨_, pss_cons (ps_asg (pe_lst pa_nil) (pg_name (i := 1) sc_law.nd rfl (by first | exact Or.inl rfl | exact Or.inr rfl))) rest, ?_⟩
  refine ⟨(by show 0 ≤ sizeLine; decide), fun l hl => ?_⟩
  obtain ⟨k', hm⟩ := math Ps.ns
  have S1 := law_start (N := N_law) hS hT hl
  exact ⟨_, _, _, 0, .rt (.bl true), k', S1, hm, fun v H' F' B' mo r => by cases r; exact q H'⟩
theorem all_mk {l : PySem.W.OpenLaw} {w : World} {qq : Program} {K : PySem.W.Frag} {h : Heap} {mg : Str → Option Value} {fa : Addr} {ns : List Int} (X : K.In h) (Gm : h.Ns mainGlobals mg) (hfa : mg "law" = some (.ref fa))
    {f0 : Addr} {od0 an0 : Option Addr} {sl0 : Array (Option Value)} {oc0 kV0 dc0 pm0 cd0 ct0 : Value}
    {f1 : Addr} {od1 an1 : Option Addr} {sl1 : Array (Option Value)} {oc1 kV1 dc1 pm1 cd1 ct1 : Value}
    {f2 : Addr} {od2 an2 : Option Addr} {sl2 : Array (Option Value)} {oc2 kV2 dc2 pm2 cd2 ct2 : Value}
    {f3 : Addr} {od3 an3 : Option Addr} {sl3 : Array (Option Value)} {oc3 kV3 dc3 pm3 cd3 ct3 : Value}
    {f4 : Addr} {od4 an4 : Option Addr} {sl4 : Array (Option Value)} {oc4 kV4 dc4 pm4 cd4 ct4 : Value}
    {f5 : Addr} {od5 an5 : Option Addr} {sl5 : Array (Option Value)} {oc5 kV5 dc5 pm5 cd5 ct5 : Value}
    {f6 : Addr} {od6 an6 : Option Addr} {sl6 : Array (Option Value)} {oc6 kV6 dc6 pm6 cd6 ct6 : Value}
    {f7 : Addr} {od7 an7 : Option Addr} {sl7 : Array (Option Value)} {oc7 kV7 dc7 pm7 cd7 ct7 : Value}
    {f8 : Addr} {od8 an8 : Option Addr} {sl8 : Array (Option Value)} {oc8 kV8 dc8 pm8 cd8 ct8 : Value}
    {f9 : Addr} {od9 an9 : Option Addr} {sl9 : Array (Option Value)} {oc9 kV9 dc9 pm9 cd9 ct9 : Value}
    {f10 : Addr} {od10 an10 : Option Addr} {sl10 : Array (Option Value)} {oc10 kV10 dc10 pm10 cd10 ct10 : Value}
    {f11 : Addr} {od11 an11 : Option Addr} {sl11 : Array (Option Value)} {oc11 kV11 dc11 pm11 cd11 ct11 : Value}
    {f12 : Addr} {od12 an12 : Option Addr} {sl12 : Array (Option Value)} {oc12 kV12 dc12 pm12 cd12 ct12 : Value}
    {f13 : Addr} {od13 an13 : Option Addr} {sl13 : Array (Option Value)} {oc13 kV13 dc13 pm13 cd13 ct13 : Value}
    {f14 : Addr} {od14 an14 : Option Addr} {sl14 : Array (Option Value)} {oc14 kV14 dc14 pm14 cd14 ct14 : Value}
    {f15 : Addr} {od15 an15 : Option Addr} {sl15 : Array (Option Value)} {oc15 kV15 dc15 pm15 cd15 ct15 : Value}
    {f16 : Addr} {od16 an16 : Option Addr} {sl16 : Array (Option Value)} {oc16 kV16 dc16 pm16 cd16 ct16 : Value}
    {f17 : Addr} {od17 an17 : Option Addr} {sl17 : Array (Option Value)} {oc17 kV17 dc17 pm17 cd17 ct17 : Value}
    {f18 : Addr} {od18 an18 : Option Addr} {sl18 : Array (Option Value)} {oc18 kV18 dc18 pm18 cd18 ct18 : Value}
    {f19 : Addr} {od19 an19 : Option Addr} {sl19 : Array (Option Value)} {oc19 kV19 dc19 pm19 cd19 ct19 : Value}
    {f20 : Addr} {od20 an20 : Option Addr} {sl20 : Array (Option Value)} {oc20 kV20 dc20 pm20 cd20 ct20 : Value}
    {f21 : Addr} {od21 an21 : Option Addr} {sl21 : Array (Option Value)} {oc21 kV21 dc21 pm21 cd21 ct21 : Value}
    {f22 : Addr} {od22 an22 : Option Addr} {sl22 : Array (Option Value)} {oc22 kV22 dc22 pm22 cd22 ct22 : Value}
    {f23 : Addr} {od23 an23 : Option Addr} {sl23 : Array (Option Value)} {oc23 kV23 dc23 pm23 cd23 ct23 : Value}
    {f24 : Addr} {od24 an24 : Option Addr} {sl24 : Array (Option Value)} {oc24 kV24 dc24 pm24 cd24 ct24 : Value}
    {f25 : Addr} {od25 an25 : Option Addr} {sl25 : Array (Option Value)} {oc25 kV25 dc25 pm25 cd25 ct25 : Value}
    {C5 Q5 : Addr} {d5 : DefRec} {ocC5 : Value} {odC5 : Option Addr} {slC5 : Array (Option Value)} {vsC5 : Array Value}
    {C11 Q11 : Addr} {d11 : DefRec} {ocC11 : Value} {odC11 : Option Addr} {slC11 : Array (Option Value)} {vsC11 : Array Value}
    {C14 Q14 : Addr} {d14 : DefRec} {ocC14 : Value} {odC14 : Option Addr} {slC14 : Array (Option Value)} {vsC14 : Array Value}
    {C17 Q17 : Addr} {d17 : DefRec} {ocC17 : Value} {odC17 : Option Addr} {slC17 : Array (Option Value)} {vsC17 : Array Value}
    {C19 Q19 : Addr} {d19 : DefRec} {ocC19 : Value} {odC19 : Option Addr} {slC19 : Array (Option Value)} {vsC19 : Array Value}
    (nt : PySem.W.noTabs K = true)
    (a0 : PySem.W.nsIn K mainGlobals "_law_draw" = some (some (.ref f0))) (l0 : K.lookup f0 = some ⟨oc0, od0, .func (PySem.W.fnOf "_law_draw" "_law_draw" (defArgs s__law_draw) (defBody s__law_draw) (defScope s__law_draw) .none kV0 dc0 pm0 an0 cd0 ct0), sl0⟩) (c0 : PySem.W.codeIn K cd0 "_law_draw" = true) (k0 : PySem.W.keepIn K (.ref f0) = true)
    (a1 : PySem.W.nsIn K mainGlobals "_law_pick" = some (some (.ref f1))) (l1 : K.lookup f1 = some ⟨oc1, od1, .func (PySem.W.fnOf "_law_pick" "_law_pick" (defArgs s__law_pick) (defBody s__law_pick) (defScope s__law_pick) .none kV1 dc1 pm1 an1 cd1 ct1), sl1⟩) (c1 : PySem.W.codeIn K cd1 "_law_pick" = true) (k1 : PySem.W.keepIn K (.ref f1) = true)
    (a2 : PySem.W.nsIn K mainGlobals "_law_mixed" = some (some (.ref f2))) (l2 : K.lookup f2 = some ⟨oc2, od2, .func (PySem.W.fnOf "_law_mixed" "_law_mixed" (defArgs s__law_mixed) (defBody s__law_mixed) (defScope s__law_mixed) .none kV2 dc2 pm2 an2 cd2 ct2), sl2⟩) (c2 : PySem.W.codeIn K cd2 "_law_mixed" = true) (k2 : PySem.W.keepIn K (.ref f2) = true)
    (a3 : PySem.W.nsIn K mainGlobals "_law_form" = some (some (.ref f3))) (l3 : K.lookup f3 = some ⟨oc3, od3, .func (PySem.W.fnOf "_law_form" "_law_form" (defArgs s__law_form) (defBody s__law_form) (defScope s__law_form) .none kV3 dc3 pm3 an3 cd3 ct3), sl3⟩) (c3 : PySem.W.codeIn K cd3 "_law_form" = true) (k3 : PySem.W.keepIn K (.ref f3) = true)
    (a4 : PySem.W.nsIn K mainGlobals "_law_row" = some (some (.ref f4))) (l4 : K.lookup f4 = some ⟨oc4, od4, .func (PySem.W.fnOf "_law_row" "_law_row" (defArgs s__law_row) (defBody s__law_row) (defScope s__law_row) .none kV4 dc4 pm4 an4 cd4 ct4), sl4⟩) (c4 : PySem.W.codeIn K cd4 "_law_row" = true) (k4 : PySem.W.keepIn K (.ref f4) = true)
    (a5 : PySem.W.nsIn K mainGlobals "form_of" = some (some (.ref f5))) (l5 : K.lookup f5 = some ⟨oc5, od5, .func (PySem.W.fnOf "form_of" "form_of" (defArgs s_form_of) (defBody s_form_of) (defScope s_form_of) .none kV5 dc5 pm5 an5 cd5 ct5), sl5⟩) (c5 : PySem.W.codeIn K cd5 "form_of" = true) (k5 : PySem.W.keepIn K (.ref f5) = true)
    (a6 : PySem.W.nsIn K mainGlobals "plus" = some (some (.ref f6))) (l6 : K.lookup f6 = some ⟨oc6, od6, .func (PySem.W.fnOf "plus" "plus" (defArgs s_plus) (defBody s_plus) (defScope s_plus) .none kV6 dc6 pm6 an6 cd6 ct6), sl6⟩) (c6 : PySem.W.codeIn K cd6 "plus" = true) (k6 : PySem.W.keepIn K (.ref f6) = true)
    (a7 : PySem.W.nsIn K mainGlobals "times" = some (some (.ref f7))) (l7 : K.lookup f7 = some ⟨oc7, od7, .func (PySem.W.fnOf "times" "times" (defArgs s_times) (defBody s_times) (defScope s_times) .none kV7 dc7 pm7 an7 cd7 ct7), sl7⟩) (c7 : PySem.W.codeIn K cd7 "times" = true) (k7 : PySem.W.keepIn K (.ref f7) = true)
    (a8 : PySem.W.nsIn K mainGlobals "form_of_cell" = some (some (.ref f8))) (l8 : K.lookup f8 = some ⟨oc8, od8, .func (PySem.W.fnOf "form_of_cell" "form_of_cell" (defArgs s_form_of_cell) (defBody s_form_of_cell) (defScope s_form_of_cell) .none kV8 dc8 pm8 an8 cd8 ct8), sl8⟩) (c8 : PySem.W.codeIn K cd8 "form_of_cell" = true) (k8 : PySem.W.keepIn K (.ref f8) = true)
    (a9 : PySem.W.nsIn K mainGlobals "put_in" = some (some (.ref f9))) (l9 : K.lookup f9 = some ⟨oc9, od9, .func (PySem.W.fnOf "put_in" "put_in" (defArgs s_put_in) (defBody s_put_in) (defScope s_put_in) .none kV9 dc9 pm9 an9 cd9 ct9), sl9⟩) (c9 : PySem.W.codeIn K cd9 "put_in" = true) (k9 : PySem.W.keepIn K (.ref f9) = true)
    (a10 : PySem.W.nsIn K mainGlobals "forms_behind" = some (some (.ref f10))) (l10 : K.lookup f10 = some ⟨oc10, od10, .func (PySem.W.fnOf "forms_behind" "forms_behind" (defArgs s_forms_behind) (defBody s_forms_behind) (defScope s_forms_behind) .none kV10 dc10 pm10 an10 cd10 ct10), sl10⟩) (c10 : PySem.W.codeIn K cd10 "forms_behind" = true) (k10 : PySem.W.keepIn K (.ref f10) = true)
    (a11 : PySem.W.nsIn K mainGlobals "map_of" = some (some (.ref f11))) (l11 : K.lookup f11 = some ⟨oc11, od11, .func (PySem.W.fnOf "map_of" "map_of" (defArgs s_map_of) (defBody s_map_of) (defScope s_map_of) .none kV11 dc11 pm11 an11 cd11 ct11), sl11⟩) (c11 : PySem.W.codeIn K cd11 "map_of" = true) (k11 : PySem.W.keepIn K (.ref f11) = true)
    (a12 : PySem.W.nsIn K mainGlobals "is_idle" = some (some (.ref f12))) (l12 : K.lookup f12 = some ⟨oc12, od12, .func (PySem.W.fnOf "is_idle" "is_idle" (defArgs s_is_idle) (defBody s_is_idle) (defScope s_is_idle) .none kV12 dc12 pm12 an12 cd12 ct12), sl12⟩) (c12 : PySem.W.codeIn K cd12 "is_idle" = true) (k12 : PySem.W.keepIn K (.ref f12) = true)
    (a13 : PySem.W.nsIn K mainGlobals "_law_both" = some (some (.ref f13))) (l13 : K.lookup f13 = some ⟨oc13, od13, .func (PySem.W.fnOf "_law_both" "_law_both" (defArgs s__law_both) (defBody s__law_both) (defScope s__law_both) .none kV13 dc13 pm13 an13 cd13 ct13), sl13⟩) (c13 : PySem.W.codeIn K cd13 "_law_both" = true) (k13 : PySem.W.keepIn K (.ref f13) = true)
    (a14 : PySem.W.nsIn K mainGlobals "joined" = some (some (.ref f14))) (l14 : K.lookup f14 = some ⟨oc14, od14, .func (PySem.W.fnOf "joined" "joined" (defArgs s_joined) (defBody s_joined) (defScope s_joined) .none kV14 dc14 pm14 an14 cd14 ct14), sl14⟩) (c14 : PySem.W.codeIn K cd14 "joined" = true) (k14 : PySem.W.keepIn K (.ref f14) = true)
    (a15 : PySem.W.nsIn K mainGlobals "_law_store" = some (some (.ref f15))) (l15 : K.lookup f15 = some ⟨oc15, od15, .func (PySem.W.fnOf "_law_store" "_law_store" (defArgs s__law_store) (defBody s__law_store) (defScope s__law_store) .none kV15 dc15 pm15 an15 cd15 ct15), sl15⟩) (c15 : PySem.W.codeIn K cd15 "_law_store" = true) (k15 : PySem.W.keepIn K (.ref f15) = true)
    (a16 : PySem.W.nsIn K mainGlobals "are_alike" = some (some (.ref f16))) (l16 : K.lookup f16 = some ⟨oc16, od16, .func (PySem.W.fnOf "are_alike" "are_alike" (defArgs s_are_alike) (defBody s_are_alike) (defScope s_are_alike) .none kV16 dc16 pm16 an16 cd16 ct16), sl16⟩) (c16 : PySem.W.codeIn K cd16 "are_alike" = true) (k16 : PySem.W.keepIn K (.ref f16) = true)
    (a17 : PySem.W.nsIn K mainGlobals "writes" = some (some (.ref f17))) (l17 : K.lookup f17 = some ⟨oc17, od17, .func (PySem.W.fnOf "writes" "writes" (defArgs s_writes) (defBody s_writes) (defScope s_writes) .none kV17 dc17 pm17 an17 cd17 ct17), sl17⟩) (c17 : PySem.W.codeIn K cd17 "writes" = true) (k17 : PySem.W.keepIn K (.ref f17) = true)
    (a18 : PySem.W.nsIn K mainGlobals "_law_written" = some (some (.ref f18))) (l18 : K.lookup f18 = some ⟨oc18, od18, .func (PySem.W.fnOf "_law_written" "_law_written" (defArgs s__law_written) (defBody s__law_written) (defScope s__law_written) .none kV18 dc18 pm18 an18 cd18 ct18), sl18⟩) (c18 : PySem.W.codeIn K cd18 "_law_written" = true) (k18 : PySem.W.keepIn K (.ref f18) = true)
    (a19 : PySem.W.nsIn K mainGlobals "store_of" = some (some (.ref f19))) (l19 : K.lookup f19 = some ⟨oc19, od19, .func (PySem.W.fnOf "store_of" "store_of" (defArgs s_store_of) (defBody s_store_of) (defScope s_store_of) .none kV19 dc19 pm19 an19 cd19 ct19), sl19⟩) (c19 : PySem.W.codeIn K cd19 "store_of" = true) (k19 : PySem.W.keepIn K (.ref f19) = true)
    (a20 : PySem.W.nsIn K mainGlobals "worth_of" = some (some (.ref f20))) (l20 : K.lookup f20 = some ⟨oc20, od20, .func (PySem.W.fnOf "worth_of" "worth_of" (defArgs s_worth_of) (defBody s_worth_of) (defScope s_worth_of) .none kV20 dc20 pm20 an20 cd20 ct20), sl20⟩) (c20 : PySem.W.codeIn K cd20 "worth_of" = true) (k20 : PySem.W.keepIn K (.ref f20) = true)
    (a21 : PySem.W.nsIn K mainGlobals "with_parts" = some (some (.ref f21))) (l21 : K.lookup f21 = some ⟨oc21, od21, .func (PySem.W.fnOf "with_parts" "with_parts" (defArgs s_with_parts) (defBody s_with_parts) (defScope s_with_parts) .none kV21 dc21 pm21 an21 cd21 ct21), sl21⟩) (c21 : PySem.W.codeIn K cd21 "with_parts" = true) (k21 : PySem.W.keepIn K (.ref f21) = true)
    (a22 : PySem.W.nsIn K mainGlobals "done" = some (some (.ref f22))) (l22 : K.lookup f22 = some ⟨oc22, od22, .func (PySem.W.fnOf "done" "done" (defArgs s_done) (defBody s_done) (defScope s_done) .none kV22 dc22 pm22 an22 cd22 ct22), sl22⟩) (c22 : PySem.W.codeIn K cd22 "done" = true) (k22 : PySem.W.keepIn K (.ref f22) = true)
    (a23 : PySem.W.nsIn K mainGlobals "run" = some (some (.ref f23))) (l23 : K.lookup f23 = some ⟨oc23, od23, .func (PySem.W.fnOf "run" "run" (defArgs s_run) (defBody s_run) (defScope s_run) .none kV23 dc23 pm23 an23 cd23 ct23), sl23⟩) (c23 : PySem.W.codeIn K cd23 "run" = true) (k23 : PySem.W.keepIn K (.ref f23) = true)
    (a24 : PySem.W.nsIn K mainGlobals "worth_at" = some (some (.ref f24))) (l24 : K.lookup f24 = some ⟨oc24, od24, .func (PySem.W.fnOf "worth_at" "worth_at" (defArgs s_worth_at) (defBody s_worth_at) (defScope s_worth_at) .none kV24 dc24 pm24 an24 cd24 ct24), sl24⟩) (c24 : PySem.W.codeIn K cd24 "worth_at" = true) (k24 : PySem.W.keepIn K (.ref f24) = true)
    (a25 : PySem.W.nsIn K mainGlobals "law" = some (some (.ref f25))) (l25 : K.lookup f25 = some ⟨oc25, od25, .func (PySem.W.fnOf "law" "law" (defArgs s_law) (defBody s_law) (defScope s_law) .none kV25 dc25 pm25 an25 cd25 ct25), sl25⟩) (c25 : PySem.W.codeIn K cd25 "law" = true) (k25 : PySem.W.keepIn K (.ref f25) = true)
    (v5 : cd5 = .ref C5) (w5 : K.lookup C5 = some ⟨ocC5, odC5, .fields vsC5, slC5⟩) (p5 : vsC5[11]? = some (.ref Q5))
    (r5 : (recsOf qq).find? (fun e => e.name == ("form_of" : Str)) = some d5)
    (v11 : cd11 = .ref C11) (w11 : K.lookup C11 = some ⟨ocC11, odC11, .fields vsC11, slC11⟩) (p11 : vsC11[11]? = some (.ref Q11))
    (r11 : (recsOf qq).find? (fun e => e.name == ("map_of" : Str)) = some d11)
    (v14 : cd14 = .ref C14) (w14 : K.lookup C14 = some ⟨ocC14, odC14, .fields vsC14, slC14⟩) (p14 : vsC14[11]? = some (.ref Q14))
    (r14 : (recsOf qq).find? (fun e => e.name == ("joined" : Str)) = some d14)
    (v17 : cd17 = .ref C17) (w17 : K.lookup C17 = some ⟨ocC17, odC17, .fields vsC17, slC17⟩) (p17 : vsC17[11]? = some (.ref Q17))
    (r17 : (recsOf qq).find? (fun e => e.name == ("writes" : Str)) = some d17)
    (v19 : cd19 = .ref C19) (w19 : K.lookup C19 = some ⟨ocC19, odC19, .fields vsC19, slC19⟩) (p19 : vsC19[11]? = some (.ref Q19))
    (r19 : (recsOf qq).find? (fun e => e.name == ("store_of" : Str)) = some d19)
    (z_len : PySem.W.nsIn K mainGlobals "len" = some none)
    (z_list : PySem.W.nsIn K mainGlobals "list" = some none)
    (z_range : PySem.W.nsIn K mainGlobals "range" = some none)
    (z_dict : PySem.W.nsIn K mainGlobals "dict" = some none)
    (z_tuple : PySem.W.nsIn K mainGlobals "tuple" = some none)
    (z_sorted : PySem.W.nsIn K mainGlobals "sorted" = some none)
    (z_sum : PySem.W.nsIn K mainGlobals "sum" = some none) :
    ∃ (fd : FuncData) (tabs : List (Addr × Addr)), (∀ (s : Shared) (u : Value), BindsTo s fd ⟨[u], []⟩ [("_law_script", u)]) ∧ PySem.W.noTabs K = true ∧ (∀ p ∈ tabs, ∃ y d', (recsOf qq).find? (fun e => e.name == y) = some d' ∧ PySem.W.tabIn K y = some p) ∧
      ∀ base : Heap, K.In base → base.Ns mainGlobals mg → BaseT mg base tabs → FnOk l.prog w K mg base CX0 8 fa fd ["_law_script"] (spLaw K ⟨tabs.map (·.2), ns⟩) := by
  have e := hfa.symm.trans (PySem.W.mg_of X Gm a25)
  cases e
  have F0 := fun_mk (st := s__law_draw) l0 c0 k0
  have b0 := F0.binds (ps := ["_law_script", "_law_town", "_law_many"]) fun _ _ _ _ _ _ us hl => match us, hl with | [_, _, _], _ => rfl
  have mm0 := PySem.W.mg_of X Gm a0
  have F1 := fun_mk (st := s__law_pick) l1 c1 k1
  have b1 := F1.binds (ps := ["_law_script", "_law_town", "_law_some"]) fun _ _ _ _ _ _ us hl => match us, hl with | [_, _, _], _ => rfl
  have mm1 := PySem.W.mg_of X Gm a1
  have F2 := fun_mk (st := s__law_mixed) l2 c2 k2
  have b2 := F2.binds (ps := ["_law_script", "_law_town", "_law_row_here"]) fun _ _ _ _ _ _ us hl => match us, hl with | [_, _, _], _ => rfl
  have mm2 := PySem.W.mg_of X Gm a2
  have F3 := fun_mk (st := s__law_form) l3 c3 k3
  have b3 := F3.binds (ps := ["_law_script", "_law_town", "_law_cells"]) fun _ _ _ _ _ _ us hl => match us, hl with | [_, _, _], _ => rfl
  have mm3 := PySem.W.mg_of X Gm a3
  have F4 := fun_mk (st := s__law_row) l4 c4 k4
  have b4 := F4.binds (ps := ["_law_script", "_law_town", "_law_most"]) fun _ _ _ _ _ _ us hl => match us, hl with | [_, _, _], _ => rfl
  have mm4 := PySem.W.mg_of X Gm a4
  have F5 := fun_mk (st := s_form_of) l5 c5 k5
  have b5 := F5.binds (ps := ["number", "many_by_cell"]) fun _ _ _ _ _ _ us hl => match us, hl with | [_, _], _ => rfl
  have mm5 := PySem.W.mg_of X Gm a5
  have F6 := fun_mk (st := s_plus) l6 c6 k6
  have b6 := F6.binds (ps := ["one", "other"]) fun _ _ _ _ _ _ us hl => match us, hl with | [_, _], _ => rfl
  have mm6 := PySem.W.mg_of X Gm a6
  have F7 := fun_mk (st := s_times) l7 c7 k7
  have b7 := F7.binds (ps := ["form", "many"]) fun _ _ _ _ _ _ us hl => match us, hl with | [_, _], _ => rfl
  have mm7 := PySem.W.mg_of X Gm a7
  have F8 := fun_mk (st := s_form_of_cell) l8 c8 k8
  have b8 := F8.binds (ps := ["cell"]) fun _ _ _ _ _ _ us hl => match us, hl with | [_], _ => rfl
  have mm8 := PySem.W.mg_of X Gm a8
  have F9 := fun_mk (st := s_put_in) l9 c9 k9
  have b9 := F9.binds (ps := ["form", "table"]) fun _ _ _ _ _ _ us hl => match us, hl with | [_, _], _ => rfl
  have mm9 := PySem.W.mg_of X Gm a9
  have F10 := fun_mk (st := s_forms_behind) l10 c10 k10
  have b10 := F10.binds (ps := ["row"]) fun _ _ _ _ _ _ us hl => match us, hl with | [_], _ => rfl
  have mm10 := PySem.W.mg_of X Gm a10
  have F11 := fun_mk (st := s_map_of) l11 c11 k11
  have b11 := F11.binds (ps := ["row"]) fun _ _ _ _ _ _ us hl => match us, hl with | [_], _ => rfl
  have mm11 := PySem.W.mg_of X Gm a11
  have F12 := fun_mk (st := s_is_idle) l12 c12 k12
  have b12 := F12.binds (ps := ["deed"]) fun _ _ _ _ _ _ us hl => match us, hl with | [_], _ => rfl
  have mm12 := PySem.W.mg_of X Gm a12
  have F13 := fun_mk (st := s__law_both) l13 c13 k13
  have b13 := F13.binds (ps := ["_law_first", "_law_second"]) fun _ _ _ _ _ _ us hl => match us, hl with | [_, _], _ => rfl
  have mm13 := PySem.W.mg_of X Gm a13
  have F14 := fun_mk (st := s_joined) l14 c14 k14
  have b14 := F14.binds (ps := ["name", "ticks", "row"]) fun _ _ _ _ _ _ us hl => match us, hl with | [_, _, _], _ => rfl
  have mm14 := PySem.W.mg_of X Gm a14
  have F15 := fun_mk (st := s__law_store) l15 c15 k15
  have b15 := F15.binds (ps := ["_law_script", "_law_town"]) fun _ _ _ _ _ _ us hl => match us, hl with | [_, _], _ => rfl
  have mm15 := PySem.W.mg_of X Gm a15
  have F16 := fun_mk (st := s_are_alike) l16 c16 k16
  have b16 := F16.binds (ps := ["one", "other"]) fun _ _ _ _ _ _ us hl => match us, hl with | [_, _], _ => rfl
  have mm16 := PySem.W.mg_of X Gm a16
  have F17 := fun_mk (st := s_writes) l17 c17 k17
  have b17 := F17.binds (ps := ["deed"]) fun _ _ _ _ _ _ us hl => match us, hl with | [_], _ => rfl
  have mm17 := PySem.W.mg_of X Gm a17
  have F18 := fun_mk (st := s__law_written) l18 c18 k18
  have b18 := F18.binds (ps := ["_law_row_here"]) fun _ _ _ _ _ _ us hl => match us, hl with | [_], _ => rfl
  have mm18 := PySem.W.mg_of X Gm a18
  have F19 := fun_mk (st := s_store_of) l19 c19 k19
  have b19 := F19.binds (ps := ["worth_by_cell"]) fun _ _ _ _ _ _ us hl => match us, hl with | [_], _ => rfl
  have mm19 := PySem.W.mg_of X Gm a19
  have F20 := fun_mk (st := s_worth_of) l20 c20 k20
  have b20 := F20.binds (ps := ["form", "table"]) fun _ _ _ _ _ _ us hl => match us, hl with | [_, _], _ => rfl
  have mm20 := PySem.W.mg_of X Gm a20
  have F21 := fun_mk (st := s_with_parts) l21 c21 k21
  have b21 := F21.binds (ps := ["store", "parts"]) fun _ _ _ _ _ _ us hl => match us, hl with | [_, _], _ => rfl
  have mm21 := PySem.W.mg_of X Gm a21
  have F22 := fun_mk (st := s_done) l22 c22 k22
  have b22 := F22.binds (ps := ["store", "deed"]) fun _ _ _ _ _ _ us hl => match us, hl with | [_, _], _ => rfl
  have mm22 := PySem.W.mg_of X Gm a22
  have F23 := fun_mk (st := s_run) l23 c23 k23
  have b23 := F23.binds (ps := ["store", "row"]) fun _ _ _ _ _ _ us hl => match us, hl with | [_, _], _ => rfl
  have mm23 := PySem.W.mg_of X Gm a23
  have F24 := fun_mk (st := s_worth_at) l24 c24 k24
  have b24 := F24.binds (ps := ["store", "cell"]) fun _ _ _ _ _ _ us hl => match us, hl with | [_, _], _ => rfl
  have mm24 := PySem.W.mg_of X Gm a24
  have F25 := fun_mk (st := s_law) l25 c25 k25
  have t5 := tabIn_of a5 l5 (show (PySem.W.fnOf _ _ _ _ _ _ _ _ _ _ _ _).code = .ref C5 from v5) w5 p5
  have t11 := tabIn_of a11 l11 (show (PySem.W.fnOf _ _ _ _ _ _ _ _ _ _ _ _).code = .ref C11 from v11) w11 p11
  have t14 := tabIn_of a14 l14 (show (PySem.W.fnOf _ _ _ _ _ _ _ _ _ _ _ _).code = .ref C14 from v14) w14 p14
  have t17 := tabIn_of a17 l17 (show (PySem.W.fnOf _ _ _ _ _ _ _ _ _ _ _ _).code = .ref C17 from v17) w17 p17
  have t19 := tabIn_of a19 l19 (show (PySem.W.fnOf _ _ _ _ _ _ _ _ _ _ _ _).code = .ref C19 from v19) w19 p19
  have zz_len := PySem.W.mg_none_of X Gm z_len
  have zz_list := PySem.W.mg_none_of X Gm z_list
  have zz_range := PySem.W.mg_none_of X Gm z_range
  have zz_dict := PySem.W.mg_none_of X Gm z_dict
  have zz_tuple := PySem.W.mg_none_of X Gm z_tuple
  have zz_sorted := PySem.W.mg_none_of X Gm z_sorted
  have zz_sum := PySem.W.mg_none_of X Gm z_sum
  refine ⟨PySem.W.fnOf "law" "law" (defArgs s_law) (defBody s_law) (defScope s_law) .none kV25 dc25 pm25 an25 cd25 ct25, [(C5, Q5), (C11, Q11), (C14, Q14), (C17, Q17), (C19, Q19)], fun s v => .of_eq rfl, nt, fun p hp => ?_, fun base _ _ BT => ?_⟩
  · simp only [List.mem_cons, List.not_mem_nil, or_false] at hp
    rcases hp with rfl | rfl | rfl | rfl | rfl
    · exact ⟨_, _, r5, t5⟩
    · exact ⟨_, _, r11, t11⟩
    · exact ⟨_, _, r14, t14⟩
    · exact ⟨_, _, r17, t17⟩
    · exact ⟨_, _, r19, t19⟩
  · have D0 := ok__law_draw (P := l.prog) (w := w) (mg := mg) (base := base) (Ps := ⟨[(C5, Q5), (C11, Q11), (C14, Q14), (C17, Q17), (C19, Q19)].map (·.2), ns⟩) F0 zz_len
    have D1 := ok__law_pick (P := l.prog) (w := w) (mg := mg) (base := base) (Ps := ⟨[(C5, Q5), (C11, Q11), (C14, Q14), (C17, Q17), (C19, Q19)].map (·.2), ns⟩) F1 D0 b0 k0 mm0 zz_len
    have D2 := ok__law_mixed (P := l.prog) (w := w) (mg := mg) (base := base) (Ps := ⟨[(C5, Q5), (C11, Q11), (C14, Q14), (C17, Q17), (C19, Q19)].map (·.2), ns⟩) F2 D0 b0 k0 mm0 zz_list zz_len
    have D3 := ok__law_form (P := l.prog) (w := w) (mg := mg) (base := base) (Ps := ⟨[(C5, Q5), (C11, Q11), (C14, Q14), (C17, Q17), (C19, Q19)].map (·.2), ns⟩) F3 D1 b1 k1 mm1 D0 b0 k0 mm0
    have D4 := ok__law_row (P := l.prog) (w := w) (mg := mg) (base := base) (Ps := ⟨[(C5, Q5), (C11, Q11), (C14, Q14), (C17, Q17), (C19, Q19)].map (·.2), ns⟩) F4 D1 b1 k1 mm1 D2 b2 k2 mm2 D0 b0 k0 mm0 D3 b3 k3 mm3 zz_range zz_dict zz_tuple zz_sorted
    have D5 := ok_form_of (P := l.prog) (w := w) (mg := mg) (base := base) (Ps := ⟨[(C5, Q5), (C11, Q11), (C14, Q14), (C17, Q17), (C19, Q19)].map (·.2), ns⟩) BT (c := C5) (Q := Q5) (by simp) (by simp) (code_of a5 l5 t5) F5 zz_sorted zz_tuple
    have D6 := ok_plus (P := l.prog) (w := w) (mg := mg) (base := base) (Ps := ⟨[(C5, Q5), (C11, Q11), (C14, Q14), (C17, Q17), (C19, Q19)].map (·.2), ns⟩) F6 D5 b5 k5 mm5 zz_dict
    have D7 := ok_times (P := l.prog) (w := w) (mg := mg) (base := base) (Ps := ⟨[(C5, Q5), (C11, Q11), (C14, Q14), (C17, Q17), (C19, Q19)].map (·.2), ns⟩) F7 D5 b5 k5 mm5
    have D8 := ok_form_of_cell (P := l.prog) (w := w) (mg := mg) (base := base) (Ps := ⟨[(C5, Q5), (C11, Q11), (C14, Q14), (C17, Q17), (C19, Q19)].map (·.2), ns⟩) F8
    have D9 := ok_put_in (P := l.prog) (w := w) (mg := mg) (base := base) (Ps := ⟨[(C5, Q5), (C11, Q11), (C14, Q14), (C17, Q17), (C19, Q19)].map (·.2), ns⟩) F9 D6 b6 k6 mm6 D7 b7 k7 mm7 D8 b8 k8 mm8
    have D10 := ok_forms_behind (P := l.prog) (w := w) (mg := mg) (base := base) (Ps := ⟨[(C5, Q5), (C11, Q11), (C14, Q14), (C17, Q17), (C19, Q19)].map (·.2), ns⟩) F10 D9 b9 k9 mm9
    have D11 := ok_map_of (P := l.prog) (w := w) (mg := mg) (base := base) (Ps := ⟨[(C5, Q5), (C11, Q11), (C14, Q14), (C17, Q17), (C19, Q19)].map (·.2), ns⟩) BT (c := C11) (Q := Q11) (by simp) (by simp) (code_of a11 l11 t11) F11 D10 b10 k10 mm10 D8 b8 k8 mm8 zz_tuple zz_sorted
    have D12 := ok_is_idle (P := l.prog) (w := w) (mg := mg) (base := base) (Ps := ⟨[(C5, Q5), (C11, Q11), (C14, Q14), (C17, Q17), (C19, Q19)].map (·.2), ns⟩) F12 D11 b11 k11 mm11
    have D13 := ok__law_both (P := l.prog) (w := w) (mg := mg) (base := base) (Ps := ⟨[(C5, Q5), (C11, Q11), (C14, Q14), (C17, Q17), (C19, Q19)].map (·.2), ns⟩) F13 D9 b9 k9 mm9 zz_dict zz_tuple zz_sorted
    have D14 := ok_joined (P := l.prog) (w := w) (mg := mg) (base := base) (Ps := ⟨[(C5, Q5), (C11, Q11), (C14, Q14), (C17, Q17), (C19, Q19)].map (·.2), ns⟩) BT (c := C14) (Q := Q14) (by simp) (by simp) (code_of a14 l14 t14) F14 D10 b10 k10 mm10 zz_tuple zz_sorted
    have D15 := ok__law_store (P := l.prog) (w := w) (mg := mg) (base := base) (Ps := ⟨[(C5, Q5), (C11, Q11), (C14, Q14), (C17, Q17), (C19, Q19)].map (·.2), ns⟩) F15 D1 b1 k1 mm1
    have D16 := ok_are_alike (P := l.prog) (w := w) (mg := mg) (base := base) (Ps := ⟨[(C5, Q5), (C11, Q11), (C14, Q14), (C17, Q17), (C19, Q19)].map (·.2), ns⟩) F16 D11 b11 k11 mm11
    have D17 := ok_writes (P := l.prog) (w := w) (mg := mg) (base := base) (Ps := ⟨[(C5, Q5), (C11, Q11), (C14, Q14), (C17, Q17), (C19, Q19)].map (·.2), ns⟩) BT (c := C17) (Q := Q17) (by simp) (by simp) (code_of a17 l17 t17) F17 zz_tuple
    have D18 := ok__law_written (P := l.prog) (w := w) (mg := mg) (base := base) (Ps := ⟨[(C5, Q5), (C11, Q11), (C14, Q14), (C17, Q17), (C19, Q19)].map (·.2), ns⟩) F18 D17 b17 k17 mm17 zz_tuple zz_sorted
    have D19 := ok_store_of (P := l.prog) (w := w) (mg := mg) (base := base) (Ps := ⟨[(C5, Q5), (C11, Q11), (C14, Q14), (C17, Q17), (C19, Q19)].map (·.2), ns⟩) BT (c := C19) (Q := Q19) (by simp) (by simp) (code_of a19 l19 t19) F19 zz_sorted zz_tuple
    have D20 := ok_worth_of (P := l.prog) (w := w) (mg := mg) (base := base) (Ps := ⟨[(C5, Q5), (C11, Q11), (C14, Q14), (C17, Q17), (C19, Q19)].map (·.2), ns⟩) F20 zz_sum
    have D21 := ok_with_parts (P := l.prog) (w := w) (mg := mg) (base := base) (Ps := ⟨[(C5, Q5), (C11, Q11), (C14, Q14), (C17, Q17), (C19, Q19)].map (·.2), ns⟩) F21 D20 b20 k20 mm20 D19 b19 k19 mm19 zz_dict
    have D22 := ok_done (P := l.prog) (w := w) (mg := mg) (base := base) (Ps := ⟨[(C5, Q5), (C11, Q11), (C14, Q14), (C17, Q17), (C19, Q19)].map (·.2), ns⟩) F22 D21 b21 k21 mm21
    have D23 := ok_run (P := l.prog) (w := w) (mg := mg) (base := base) (Ps := ⟨[(C5, Q5), (C11, Q11), (C14, Q14), (C17, Q17), (C19, Q19)].map (·.2), ns⟩) F23 D22 b22 k22 mm22
    have D24 := ok_worth_at (P := l.prog) (w := w) (mg := mg) (base := base) (Ps := ⟨[(C5, Q5), (C11, Q11), (C14, Q14), (C17, Q17), (C19, Q19)].map (·.2), ns⟩) F24 zz_dict
    exact ok_law (P := l.prog) (w := w) (mg := mg) (base := base) (Ps := ⟨[(C5, Q5), (C11, Q11), (C14, Q14), (C17, Q17), (C19, Q19)].map (·.2), ns⟩) F25 D4 b4 k4 mm4 D0 b0 k0 mm0 D11 b11 k11 mm11 D13 b13 k13 mm13 D15 b15 k15 mm15 D14 b14 k14 mm14 D17 b17 k17 mm17 D18 b18 k18 mm18 D22 b22 k22 mm22 D23 b23 k23 mm23 D16 b16 k16 mm16 D12 b12 k12 mm12 D24 b24 k24 mm24 D20 b20 k20 mm20 zz_range zz_tuple zz_dict
end K33
open PySem PySem.W PyProof.Rows
set_option maxRecDepth 100000 in
set_option maxHeartbeats 0 in
theorem PySem.Challenge.cw_sidedeeds_k33_whole_maps_put_together_holds : PySem.Challenge.rw_sidedeeds_k33_whole_maps_put_together.Holds := by
  w_on; o_law; k_head; (case hw => w_witness2)
  k_fill
  refine UM.walkT (l := PySem.Challenge.rw_sidedeeds_k33_whole_maps_put_together) (n := 63) (k := 8) (x := "_law_script") rfl (by decide) rfl ⟨rfl, by decide, by decide⟩ (fun w h Y => PySem.W.kIn_of Y) ?F
  case F =>
    intro w mg fa h ns hns KX Gm hmg
    refine' K33.all_mk KX Gm hmg ?nt ?a0 ?l0 ?c0 ?k0 ?a1 ?l1 ?c1 ?k1 ?a2 ?l2 ?c2 ?k2 ?a3 ?l3 ?c3 ?k3 ?a4 ?l4 ?c4 ?k4 ?a5 ?l5 ?c5 ?k5 ?a6 ?l6 ?c6 ?k6 ?a7 ?l7 ?c7 ?k7 ?a8 ?l8 ?c8 ?k8 ?a9 ?l9 ?c9 ?k9 ?a10 ?l10 ?c10 ?k10 ?a11 ?l11 ?c11 ?k11 ?a12 ?l12 ?c12 ?k12 ?a13 ?l13 ?c13 ?k13 ?a14 ?l14 ?c14 ?k14 ?a15 ?l15 ?c15 ?k15 ?a16 ?l16 ?c16 ?k16 ?a17 ?l17 ?c17 ?k17 ?a18 ?l18 ?c18 ?k18 ?a19 ?l19 ?c19 ?k19 ?a20 ?l20 ?c20 ?k20 ?a21 ?l21 ?c21 ?k21 ?a22 ?l22 ?c22 ?k22 ?a23 ?l23 ?c23 ?k23 ?a24 ?l24 ?c24 ?k24 ?a25 ?l25 ?c25 ?k25 ?v5 ?w5 ?p5 ?r5 ?v11 ?w11 ?p11 ?r11 ?v14 ?w14 ?p14 ?r14 ?v17 ?w17 ?p17 ?r17 ?v19 ?w19 ?p19 ?r19 ?z_len ?z_list ?z_range ?z_dict ?z_tuple ?z_sorted ?z_sum
    (case nt => kernel_rfl)
    (case a0 => k_is); (case l0 => k_is); (case c0 => k_is); (case k0 => k_is)
    (case a1 => k_is); (case l1 => k_is); (case c1 => k_is); (case k1 => k_is)
    (case a2 => k_is); (case l2 => k_is); (case c2 => k_is); (case k2 => k_is)
    (case a3 => k_is); (case l3 => k_is); (case c3 => k_is); (case k3 => k_is)
    (case a4 => k_is); (case l4 => k_is); (case c4 => k_is); (case k4 => k_is)
    (case a5 => k_is); (case l5 => k_is); (case c5 => k_is); (case k5 => k_is)
    (case a6 => k_is); (case l6 => k_is); (case c6 => k_is); (case k6 => k_is)
    (case a7 => k_is); (case l7 => k_is); (case c7 => k_is); (case k7 => k_is)
    (case a8 => k_is); (case l8 => k_is); (case c8 => k_is); (case k8 => k_is)
    (case a9 => k_is); (case l9 => k_is); (case c9 => k_is); (case k9 => k_is)
    (case a10 => k_is); (case l10 => k_is); (case c10 => k_is); (case k10 => k_is)
    (case a11 => k_is); (case l11 => k_is); (case c11 => k_is); (case k11 => k_is)
    (case a12 => k_is); (case l12 => k_is); (case c12 => k_is); (case k12 => k_is)
    (case a13 => k_is); (case l13 => k_is); (case c13 => k_is); (case k13 => k_is)
    (case a14 => k_is); (case l14 => k_is); (case c14 => k_is); (case k14 => k_is)
    (case a15 => k_is); (case l15 => k_is); (case c15 => k_is); (case k15 => k_is)
    (case a16 => k_is); (case l16 => k_is); (case c16 => k_is); (case k16 => k_is)
    (case a17 => k_is); (case l17 => k_is); (case c17 => k_is); (case k17 => k_is)
    (case a18 => k_is); (case l18 => k_is); (case c18 => k_is); (case k18 => k_is)
    (case a19 => k_is); (case l19 => k_is); (case c19 => k_is); (case k19 => k_is)
    (case a20 => k_is); (case l20 => k_is); (case c20 => k_is); (case k20 => k_is)
    (case a21 => k_is); (case l21 => k_is); (case c21 => k_is); (case k21 => k_is)
    (case a22 => k_is); (case l22 => k_is); (case c22 => k_is); (case k22 => k_is)
    (case a23 => k_is); (case l23 => k_is); (case c23 => k_is); (case k23 => k_is)
    (case a24 => k_is); (case l24 => k_is); (case c24 => k_is); (case k24 => k_is)
    (case a25 => k_is); (case l25 => k_is); (case c25 => k_is); (case k25 => k_is)
    (case v5 => rfl); (case w5 => k_is); (case p5 => rfl); (case r5 => rfl)
    (case v11 => rfl); (case w11 => k_is); (case p11 => rfl); (case r11 => rfl)
    (case v14 => rfl); (case w14 => k_is); (case p14 => rfl); (case r14 => rfl)
    (case v17 => rfl); (case w17 => k_is); (case p17 => rfl); (case r17 => rfl)
    (case v19 => rfl); (case w19 => k_is); (case p19 => rfl); (case r19 => rfl)
    (case z_len => k_is)
    (case z_list => k_is)
    (case z_range => k_is)
    (case z_dict => k_is)
    (case z_tuple => k_is)
    (case z_sorted => k_is)
    (case z_sum => k_is)
#print axioms PySem.Challenge.cw_sidedeeds_k33_whole_maps_put_together_holds
