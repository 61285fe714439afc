import PyProof.Rows.All
import Wide.All
import OpenK.AllK
import Wide.FinOn
import PyProof.EqAt
import PyProof.EqKinds
import PyProof.TupleCall
import KE.BitLaws
import Open.SpecLaws
import KE.OsHead
import KE.OsGo
import PyProof.ZipIter
import PyProof.TupleIter
import PyProof.EnumIter
import PyProof.WalksMore
import PyProof.AutoSeq1
import PyProof.AutoListH
import PyProof.Rows.Tup
import PySem.Challenge.RW_boxlines_s01_answers
def PySem.W.Fast.tw9611134812614605654 : Unit := ()
def PySem.W.Fast.tw1501699760578544473 : Unit := ()
def PySem.W.Fast.tw7403950561306404731 : Unit := ()
def PySem.W.Fast.tw10922176901495199437 : Unit := ()
def PySem.W.Fast.tw5152929876973433220 : Unit := ()
def PySem.W.Fast.tw10495640883023323458 : Unit := ()
set_option Elab.async false
set_option linter.all false
set_option maxRecDepth 100000
namespace L2
open PySem PySem.Spec PyProof.Rows
abbrev Key := Sum Int Str
def keyIs : Key → Value → Bool
  | .inl k, v => Value.isInt k v
  | .inr x, v => Value.isStrOf x v
def keyH (w : World) : Key → Int
  | .inl k => hashInt k
  | .inr x => hashStr w x
theorem keyIs_shape : ∀ {k : Key} {v : Value}, keyIs k v = true → (∃ i t, k = Sum.inl i ∧ v = Value.int i t) ∨ (∃ x t, k = Sum.inr x ∧ v = Value.str x t)
  | .inl i, v, h => by
    obtain ⟨t, e⟩ := Value.isInt_shape (k := i) (v := v) h
    exact .inl ⟨i, t, rfl, e⟩
  | .inr x, v, h => by
    obtain ⟨t, e⟩ := Value.isStrOf_shape (x := x) (v := v) h
    exact .inr ⟨x, t, rfl, e⟩
theorem key_ll (a b : Int) : decide ((Sum.inl a : Key) = Sum.inl b) = (a == b) := by
  by_cases e : a = b
  · subst e; simp
  · have h : ¬ (Sum.inl a : Key) = Sum.inl b := fun q => e (Sum.inl.inj q)
    rw [decide_eq_false h]
    exact (beq_eq_false_iff_ne.mpr e).symm
theorem key_rr (a b : Str) : decide ((Sum.inr a : Key) = Sum.inr b) = decide (a = b) := by
  by_cases e : a = b
  · subst e; simp
  · have h : ¬ (Sum.inr a : Key) = Sum.inr b := fun q => e (Sum.inr.inj q)
    rw [decide_eq_false h, decide_eq_false e]
theorem key_lr (a : Int) (b : Str) : decide ((Sum.inl a : Key) = Sum.inr b) = false := decide_eq_false (fun q => nomatch q)
theorem key_rl (a : Str) (b : Int) : decide ((Sum.inr a : Key) = Sum.inl b) = false := decide_eq_false (fun q => nomatch q)
def mixKind (prog : Program) (w : World) : PySem.KeyKind prog w Key where
  is := keyIs
  hash := keyH w
  inj := fun v a b ha hb => by
    rcases keyIs_shape ha with ⟨i, t, rfl, rfl⟩ | ⟨x, t, rfl, rfl⟩
    · rcases keyIs_shape hb with ⟨j, u, rfl, e⟩ | ⟨y, u, rfl, e⟩
      · injection e with e1 _; rw [e1]
      · exact nomatch e
    · rcases keyIs_shape hb with ⟨j, u, rfl, e⟩ | ⟨y, u, rfl, e⟩
      · exact nomatch e
      · injection e with e1 _; rw [e1]
  byValue := fun k v h => by
    rcases keyIs_shape h with ⟨i, t, rfl, rfl⟩ | ⟨x, t, rfl, rfl⟩ <;> rfl
  pyHash := fun hv h => by
    rcases keyIs_shape hv with ⟨i, t, rfl, rfl⟩ | ⟨x, t, rfl, rfl⟩
    · exact wpAny_pyHash_int h
    · exact wpAny_pyHash_str h
  eqBool := fun hu hv h => by
    rcases keyIs_shape hu with ⟨i, t, rfl, rfl⟩ | ⟨x, t, rfl, rfl⟩
    · rcases keyIs_shape hv with ⟨j, u, rfl, rfl⟩ | ⟨y, u, rfl, rfl⟩
      · rw [key_ll] at h; exact wpAny_eqBool_int h
      · rw [key_lr] at h; exact SeqAt.EqAt.int_str i t y u _ _ _ _ h
    · rcases keyIs_shape hv with ⟨j, u, rfl, rfl⟩ | ⟨y, u, rfl, rfl⟩
      · rw [key_rl] at h; exact SeqAt.EqAt.str_int x t j u _ _ _ _ h
      · rw [key_rr] at h; exact wpAny_eqBool_str h
  «strs» := fun k x t v h => by
    rcases keyIs_shape h with ⟨i, u, rfl, e⟩ | ⟨y, u, rfl, e⟩
    · exact nomatch e
    · injection e with e1 _
      subst e1
      cases v <;> rfl
end L2
namespace L2
open PySem PySem.Spec PyProof.Rows
inductive V where
  | non | bl (b : Bool) | int (i : Int) | str (x : Str) | byt (b : Array UInt8) | flt (b : UInt64) | ref (a : Addr) | ty (n : String)
  deriving DecidableEq
def RelV : V → Value → Prop
  | .non, u => u = Value.none
  | .bl b, u => u = Value.bool b
  | .int i, u => ∃ t, u = Value.int i t
  | .str x, u => ∃ t, u = Value.str x t
  | .byt b, u => ∃ t, u = Value.bytes b t
  | .flt b, u => ∃ t, u = Value.float b t
  | .ref a, u => u = Value.ref a
  | .ty n, u => u = Value.type n
abbrev Vals : List V → List Value → Prop := Paired RelV
theorem Vals.length {xs : List V} {us : List Value} (r : Vals xs us) : xs.length = us.length := Paired.length r
theorem Vals.get : ∀ {xs : List V} {us : List Value} {i : Nat} {x : V}, Vals xs us → xs[i]? = some x → ∃ u, us[i]? = some u ∧ RelV x u
  | _, _, _, _, .nil, e => by simp at e
  | _, _, 0, _, .cons r _, e => by simp at e; subst e; exact ⟨_, rfl, r⟩
  | _, _, i + 1, x, .cons _ t, e => by
    obtain ⟨u, h1, h2⟩ := Vals.get (i := i) (x := x) t (by simpa using e)
    exact ⟨u, by simpa using h1, h2⟩
theorem Vals.set {x : V} {u : Value} (r : RelV x u) : ∀ {xs : List V} {us : List Value} (i : Nat), Vals xs us → Vals (xs.set i x) (us.set i u)
  | _, _, _, .nil => .nil
  | _, _, 0, .cons _ t => .cons r t
  | _, _, i + 1, .cons q t => .cons q (Vals.set r i t)
theorem Vals.append : ∀ {xs ys : List V} {us ws : List Value}, Vals xs us → Vals ys ws → Vals (xs ++ ys) (us ++ ws)
  | _, _, _, _, .nil, s => s
  | _, _, _, _, .cons r t, s => .cons r (Vals.append t s)
theorem Vals.take : ∀ {xs : List V} {us : List Value} (n : Nat), Vals xs us → Vals (xs.take n) (us.take n)
  | _, _, 0, _ => .nil
  | _, _, _ + 1, .nil => .nil
  | _, _, n + 1, .cons r t => .cons r (Vals.take n t)
theorem Vals.drop : ∀ {xs : List V} {us : List Value} (n : Nat), Vals xs us → Vals (xs.drop n) (us.drop n)
  | _, _, 0, r => r
  | _, _, _ + 1, .nil => .nil
  | _, _, n + 1, .cons _ t => Vals.drop n t
theorem Vals.none_of : ∀ {xs : List V} {us : List Value} {i : Nat}, Vals xs us → xs[i]? = none → us[i]? = none := fun {xs us i} r e => by
  have h1 := r.length
  have h2 : xs.length ≤ i := List.getElem?_eq_none_iff.mp e
  exact List.getElem?_eq_none_iff.mpr (by omega)
def RelO : Option V → Option Value → Prop
  | some v, some u => RelV v u
  | none, none => True
  | _, _ => False
def KV {κ : Type} : List (κ × V) → List (κ × Value) → Prop := Paired fun (p : κ × V) (q : κ × Value) => p.1 = q.1 ∧ RelV p.2 q.2
def kV : Key → V
  | .inl i => .int i
  | .inr x => .str x
inductive HO where
  /-- a list -/
  | lst (xs : List V)
  /-- a tuple (never changes) -/
  | tup (xs : List V)
  /-- a dict whose keys are ints and texts; one whose keys are tuples of ints and texts (the empty one is both) -/
  | dK (kvs : List (Key × V)) | dT (kvs : List (List Key × V))
  /-- a set of ints: its members, its size -/
  | set (S : Int → Bool) (n : Nat)
  /-- an instance of the class at C, its dict at dx, its attributes -/
  | ins (C dx : Addr) (fs : List (Str × V))
  /-- the dict of the instance at x -/
  | own (x : Addr)
  /-- the dict of an exception -/
  | xd (fs : List (Str × V))
  /-- a bound method, f of x -/
  | met (f x : Addr)
  /-- a range object lo, lo + 1, .. below hi -/
  | rng (lo hi : Int)
  /-- a thing that is known to the object (the script; a dict while a loop walks it): read, never written while it is so -/
  | frz (o : Obj) (u : HO)
  /-- a code object's table -/
  | tbl (ps : Array Value)
  /-- any other thing, by what is true of its one object (a def of one's own: SetO a S n := HO.ext fun h => ..) -/
  | ext (φ : Heap → Prop)
abbrev Hp := Addr → Option HO
def upd (H : Hp) (a : Addr) (o : HO) : Hp := fun b => if b = a then some o else H b
theorem upd_same {H : Hp} {a : Addr} {o : HO} : upd H a o a = some o := by unfold upd; rw [if_pos rfl]
theorem upd_ne {H : Hp} {a b : Addr} {o : HO} (h : b ≠ a) : upd H a o b = H b := by unfold upd; rw [if_neg h]
theorem ne_of {H : Hp} {a b : Addr} {o u : HO} (h : H a = some o) (h' : H b = some u) (d : o ≠ u) : a ≠ b := by
  intro e; subst e; rw [h] at h'; exact d (Option.some.inj h')
theorem ne_of_none {H : Hp} {a b : Addr} {o : HO} (h : H a = some o) (h' : H b = none) : a ≠ b := by
  intro e; subst e; rw [h] at h'; cases h'
section
variable (P : Program) (w : World)
def ObjOk (H : Hp) (h : Heap) (a : Addr) : HO → Prop
  | .lst xs => xs.length ≤ sizeLine ∧ ∃ (its : List Value) (n : Nat), Vals xs its ∧ h.get? a = some { cls := .type "list", data := .seq its.toArray n }
  | .tup xs => xs.length ≤ sizeLine ∧ ∃ its : List Value, Vals xs its ∧ IsTup h a its.toArray
  | .dK kvs => kvs.length ≤ sizeLine ∧ (a == sysModules) = false ∧ ∃ vs, KV kvs vs ∧ h.DictOf (mixKind P w) a vs
  | .dT kvs => kvs.length ≤ sizeLine ∧ (a == sysModules) = false ∧ ∃ xs : List (List Key × Addr × Value),
      Paired (fun (p : List Key × V) (q : List Key × Addr × Value) => p.1 = q.1 ∧ H q.2.1 = some (.tup (p.1.map kV)) ∧ RelV p.2 q.2.2) kvs xs ∧
      ∃ o es ep, h.get? a = some o ∧ o.ExactDict ∧ o.data = .dict es ep ∧ es.toList = xs.map (entryOfKey (tupleKind (mixKind P w))) ∧ (xs.map (·.1)).Nodup
  | .set S n => h.SetOf (intKind P w) a S n
  | .ins C dx fs => H dx = some (.own a) ∧ fs.length ≤ 1000 ∧ dx ≠ a ∧ h.get? a = some (PySem.W.instObj C dx) ∧
      ∃ mA, h.Ns1 dx mA ∧ (∀ f, RelO (fs.lookup f) (mA f)) ∧ PySem.Within mA (fs.map (·.1))
  | .own _ => ∃ o, h.get? a = some o
  | .xd fs => ∃ mA, h.Ns1 a mA ∧ ∀ f, RelO (fs.lookup f) (mA f)
  | .rng lo hi => ∃ t u v, h.get? a = some { cls := .type "range", data := .fields #[.int lo t, .int hi u, .int 1 v] }
  | .frz o u => h.get? a = some o ∧ ObjOk H h a u
  | .tbl ps => h.get? a = some { cls := .none, data := .fields ps }
  | .met f x => h.get? a = some (PySem.W.methodObj (.ref f) (.ref x))
  | .ext φ => φ h ∧ (∃ o, h.get? a = some o) ∧ ∀ h1 h2 : Heap, φ h1 → (∀ o, h1.get? a = some o → h2.get? a = some o) → φ h2
def HOk (H : Hp) (h : Heap) : Prop := ∀ a o, H a = some o → ObjOk P w H h a o
end
section
variable {P : Program} {w : World} {H H' : Hp} {h h' : Heap} {a : Addr} {o : HO}
theorem ObjOk.lt (x : ObjOk P w H h a o) : a < h.objs.size := by
  cases o with
  | lst xs => obtain ⟨_, _, _, _, e⟩ := x; exact Heap.lt_size e
  | tup xs => obtain ⟨_, _, _, p⟩ := x; exact p.lt
  | dK kvs => obtain ⟨_, _, _, _, o, _, _, e, _⟩ := x; exact Heap.lt_size e
  | dT kvs => obtain ⟨_, _, _, _, o, _, _, e, _⟩ := x; exact Heap.lt_size e
  | set S n => obtain ⟨o, _, _, _, e, _⟩ := x; exact Heap.lt_size e
  | ins C dx fs => obtain ⟨_, _, _, e, _⟩ := x; exact Heap.lt_size e
  | own y => obtain ⟨_, e⟩ := x; exact Heap.lt_size e
  | xd fs => obtain ⟨_, ⟨_, _, _, e, _⟩, _⟩ := x; exact Heap.lt_size e
  | rng lo hi => obtain ⟨_, _, _, e⟩ := x; exact Heap.lt_size e
  | frz ob u => obtain ⟨e, _⟩ := x; exact Heap.lt_size e
  | tbl ps => exact Heap.lt_size (show h.get? a = some _ from x)
  | met f y => exact Heap.lt_size (show h.get? a = some _ from x)
  | ext φ => obtain ⟨_, ⟨_, e⟩, _⟩ := x; exact Heap.lt_size e
theorem Paired.mapP {α β : Type} {F G : α → β → Prop} : ∀ {l₁ : List α} {l₂ : List β}, Paired F l₁ l₂ → (∀ a b, F a b → G a b) → Paired G l₁ l₂
  | _, _, .nil, _ => .nil
  | _, _, .cons r t, f => .cons (f _ _ r) (Paired.mapP t f)
theorem ObjOk.stay (x : ObjOk P w H h a o) (k : ∀ b u, (b = a ∨ H b = some (.own a)) → h.get? b = some u → h'.get? b = some u)
    (ho : ∀ b, H b = some (.own a) → H' b = some (.own a)) (ht : ∀ b xs, H b = some (.tup xs) → H' b = some (.tup xs)) : ObjOk P w H' h' a o := by
  induction o with
  | lst xs => obtain ⟨z, its, n, r, e⟩ := x; exact ⟨z, its, n, r, k _ _ (.inl rfl) e⟩
  | tup xs => obtain ⟨z, its, r, ob, e, c⟩ := x; exact ⟨z, its, r, ob, k _ _ (.inl rfl) e, c⟩
  | dK kvs => obtain ⟨z, y, vs, r, ob, es, ep, e, c⟩ := x; exact ⟨z, y, vs, r, ob, es, ep, k _ _ (.inl rfl) e, c⟩
  | dT kvs =>
    obtain ⟨z, y, xs, r, ob, es, ep, e, c⟩ := x
    exact ⟨z, y, xs, Paired.mapP r fun p q z => ⟨z.1, ht _ _ z.2.1, z.2.2⟩, ob, es, ep, k _ _ (.inl rfl) e, c⟩
  | set S n => obtain ⟨ob, es, ep, t, e, c⟩ := x; exact ⟨ob, es, ep, t, k _ _ (.inl rfl) e, c⟩
  | ins C dx fs =>
    obtain ⟨d, z, ne, e, mA, ⟨od, es, ep, e2, c⟩, r⟩ := x
    exact ⟨ho _ d, z, ne, k _ _ (.inl rfl) e, mA, ⟨od, es, ep, k _ _ (.inr d) e2, c⟩, r⟩
  | own y => obtain ⟨ob, e⟩ := x; exact ⟨ob, k _ _ (.inl rfl) e⟩
  | xd fs => obtain ⟨mA, ⟨od, es, ep, e, c⟩, r⟩ := x; exact ⟨mA, ⟨od, es, ep, k _ _ (.inl rfl) e, c⟩, r⟩
  | rng lo hi => obtain ⟨t, u, v, e⟩ := x; exact ⟨t, u, v, k _ _ (.inl rfl) e⟩
  | frz ob u ih => obtain ⟨e, q⟩ := x; exact ⟨k _ _ (.inl rfl) e, ih q⟩
  | tbl ps =>
    have e : h.get? a = some { cls := .none, data := .fields ps } := x
    show h'.get? a = some { cls := .none, data := .fields ps }
    exact k a _ (.inl rfl) e
  | met f y =>
    have e : h.get? a = some (PySem.W.methodObj (.ref f) (.ref y)) := x
    show h'.get? a = some (PySem.W.methodObj (.ref f) (.ref y))
    exact k a _ (.inl rfl) e
  | ext φ => obtain ⟨p, ⟨o, e⟩, st⟩ := x; exact ⟨st _ _ p fun o q => k _ _ (.inl rfl) q, ⟨o, k _ _ (.inl rfl) e⟩, st⟩
theorem HOk.lt (x : HOk P w H h) (e : H a = some o) : a < h.objs.size := (x a o e).lt
theorem HOk.fresh (x : HOk P w H h) (e : h.objs.size ≤ a) : H a = none := by
  cases q : H a with
  | none => rfl
  | some u => exact absurd (Nat.lt_of_lt_of_le (x.lt q) e) (Nat.lt_irrefl _)
theorem HOk.kept (x : HOk P w H h) (k : ∀ b u, h.get? b = some u → h'.get? b = some u) : HOk P w H h' := fun a o e =>
  (x a o e).stay (fun b u _ q => k b u q) (fun _ q => q) fun _ _ q => q
theorem HOk.laid (x : HOk P w H h) (k : ∀ b u, h.get? b = some u → h'.get? b = some u) (hp : h.objs.size ≤ a) (new : ObjOk P w (upd H a o) h' a o) : HOk P w (upd H a o) h' := fun b u e => by
  have hn := x.fresh hp
  by_cases hb : b = a
  · subst hb; rw [upd_same] at e; cases e; exact new
  · rw [upd_ne hb] at e
    exact (x b u e).stay (fun c v _ q => k c v q) (fun c q => by rw [upd_ne (ne_of_none q hn)]; exact q) fun c xs q => by rw [upd_ne (ne_of_none q hn)]; exact q
end
def Rd (H : Hp) (a : Addr) (u : HO) : Prop := H a = some u ∨ ∃ o, H a = some (.frz o u)
theorem Rd.of {H : Hp} {a : Addr} {u : HO} (h : H a = some u) : Rd H a u := .inl h
theorem Rd.ok {P : Program} {w : World} {H : Hp} {h : Heap} {a : Addr} {u : HO} (r : Rd H a u) (x : HOk P w H h) : ObjOk P w H h a u := by
  rcases r with r | ⟨o, r⟩
  · exact x a u r
  · obtain ⟨_, q⟩ := x a _ r
    exact q
def Mut : Option HO → Prop
  | some (.lst _) => True
  | some (.dK _) => True
  | some (.dT _) => True
  | some (.set _ _) => True
  | some (.ins _ _ _) => True
  | some (.ext _) => True
  | _ => False
section
variable {P : Program} {w : World} {H : Hp} {h h' : Heap} {x e : Addr} {o' : HO}
theorem HOk.write (ok : HOk P w H h) (mu : Mut (H x)) (he : e = x ∨ H e = some (.own x)) (k : ∀ b u, b ≠ e → h.get? b = some u → h'.get? b = some u) (heo : ∃ u, h'.get? e = some u)
    (new : ObjOk P w (upd H x o') h' x o') : HOk P w (upd H x o') h' := fun b u q => by
  have nown : ∀ c y, H c = some (.own y) → c ≠ x := fun c y r z => by subst z; rw [r] at mu; exact mu
  have ntup : ∀ c xs, H c = some (.tup xs) → c ≠ x := fun c xs r z => by subst z; rw [r] at mu; exact mu
  by_cases hb : b = x
  · subst hb; rw [upd_same] at q; cases q; exact new
  · rw [upd_ne hb] at q
    by_cases hbe : b = e
    · have q' : H b = some (.own x) := by
        rcases he with z | z
        · exact absurd (hbe.trans z) hb
        · rw [hbe]; exact z
      rw [q] at q'; cases q'
      obtain ⟨v, hv⟩ := heo
      exact ⟨v, by rw [hbe]; exact hv⟩
    · refine (ok b u q).stay (fun c v hc r => k c v ?_ r) (fun c r => by rw [upd_ne (nown c b r)]; exact r) fun c xs r => by rw [upd_ne (ntup c xs r)]; exact r
      rcases hc with rfl | hc
      · exact hbe
      · rintro rfl
        rcases he with z | z
        · exact nown c b hc z
        · rw [hc] at z; cases z; exact hb rfl
end
structure Un (fs ex : List Addr) (H H' : Hp) (h h' : Heap) : Prop where
  keep : ∀ b o, h.get? b = some o → H b = none → b ∉ fs → b ∉ ex → h'.get? b = some o
  slot : ∀ b o, h.get? b = some o → H b = none → b ∈ fs → b ∉ ex → ∃ sl, h'.get? b = some { o with slots := sl }
  free : ∀ b o, h.get? b = some o → H b = none → b ∉ ex → H' b = none
  there : ∀ b o, h.get? b = some o → b ∉ ex → ∃ o', h'.get? b = some o'
  tups : ∀ b xs, H b = some (.tup xs) → H' b = some (.tup xs)
  frzs : ∀ b o u, H b = some (.frz o u) → H' b = some (.frz o u)
  tbls : ∀ b ps, H b = some (.tbl ps) → ∃ more, H' b = some (.tbl (ps ++ more))
section
variable {fs fs' ex ex' : List Addr} {H H1 H2 : Hp} {h h1 h2 h' : Heap} {a x e : Addr} {o : HO}
theorem Un.any (u : Un fs ex H H1 h h1) {b : Addr} {ob : Obj} (q : h.get? b = some ob) (n : H b = none) (hx : b ∉ ex) : ∃ sl, h1.get? b = some { ob with slots := sl } := by
  by_cases hb : b ∈ fs
  · exact u.slot b ob q n hb hx
  · exact ⟨ob.slots, u.keep b ob q n hb hx⟩
theorem Un.trans (a : Un fs ex H H1 h h1) (b : Un fs ex H1 H2 h1 h2) : Un fs ex H H2 h h2 where
  keep := fun c ob q n hc hx => b.keep c ob (a.keep c ob q n hc hx) (a.free c ob q n hx) hc hx
  slot := fun c ob q n hc hx => by
    obtain ⟨sl, e1⟩ := a.slot c ob q n hc hx
    obtain ⟨sl', e2⟩ := b.slot c _ e1 (a.free c ob q n hx) hc hx
    exact ⟨sl', e2⟩
  free := fun c ob q n hx => by
    obtain ⟨o', e1⟩ := a.there c ob q hx
    exact b.free c o' e1 (a.free c ob q n hx) hx
  there := fun c ob q hx => by
    obtain ⟨o', e1⟩ := a.there c ob q hx
    exact b.there c o' e1 hx
  tups := fun c xs q => b.tups c xs (a.tups c xs q)
  frzs := fun c ob xs q => b.frzs c ob xs (a.frzs c ob xs q)
  tbls := fun c ps q => by
    obtain ⟨m1, e1⟩ := a.tbls c ps q
    obtain ⟨m2, e2⟩ := b.tbls c _ e1
    exact ⟨m1 ++ m2, by rw [e2, Array.append_assoc]⟩
theorem Un.kept (k : ∀ b u, h.get? b = some u → h'.get? b = some u) : Un fs ex H H h h' :=
  ⟨fun b ob q _ _ _ => k b ob q, fun b ob q _ _ _ => ⟨ob.slots, k b ob q⟩, fun _ _ _ n _ => n, fun b ob q _ => ⟨ob, k b ob q⟩, fun _ _ q => q, fun _ _ _ q => q, fun _ ps q => ⟨#[], by rw [q]; simp⟩⟩
theorem Un.refl : Un fs ex H H h h := Un.kept fun _ _ q => q
theorem Un.laid (k : ∀ b u, h.get? b = some u → h'.get? b = some u) (hp : h.objs.size ≤ a) (hn : H a = none) : Un fs ex H (upd H a o) h h' where
  keep := fun b u q _ _ _ => k b u q
  slot := fun b u q _ _ _ => ⟨u.slots, k b u q⟩
  free := fun b u q n _ => by rw [upd_ne (Nat.ne_of_lt (Nat.lt_of_lt_of_le (Heap.lt_size q) hp))]; exact n
  there := fun b u q _ => ⟨u, k b u q⟩
  tups := fun b xs q => by rw [upd_ne (ne_of_none q hn)]; exact q
  frzs := fun b u xs q => by rw [upd_ne (ne_of_none q hn)]; exact q
  tbls := fun b ps q => ⟨#[], by rw [upd_ne (ne_of_none q hn), q]; simp⟩
theorem Un.write (mu : Mut (H x)) (he : e = x ∨ H e = some (.own x)) (k : ∀ b u, b ≠ e → h.get? b = some u → h'.get? b = some u) (heo : ∃ u, h'.get? e = some u) : Un fs ex H (upd H x o) h h' := by
  have hx : ∀ b, H b = none → b ≠ x := fun b n z => by subst z; rw [n] at mu; exact mu
  have hb : ∀ b, H b = none → b ≠ e := fun b n z => by
    subst z
    rcases he with r | r
    · exact hx b n r
    · rw [n] at r; cases r
  have hm : ∀ b u, H b = some u → ¬ Mut (some u) → b ≠ x := fun b u q nm z => by subst z; rw [q] at mu; exact nm mu
  refine ⟨fun b u q n _ _ => k b u (hb b n) q, fun b u q n _ _ => ⟨u.slots, k b u (hb b n) q⟩, fun b u q n _ => by rw [upd_ne (hx b n)]; exact n, fun b u q _ => ?_,
    fun b xs q => by rw [upd_ne (hm b _ q fun z => z)]; exact q, fun b u xs q => by rw [upd_ne (hm b _ q fun z => z)]; exact q, fun b ps q => ⟨#[], by rw [upd_ne (hm b _ q fun z => z), q]; simp⟩⟩
  by_cases hbe : b = e
  · subst hbe; exact heo
  · exact ⟨u, k b u hbe q⟩
theorem Un.mono (u : Un fs ex H H1 h h1) (hs : ∀ b ∈ fs, b ∈ fs') (hx : ∀ b ∈ ex, b ∈ ex') : Un fs' ex' H H1 h h1 :=
  ⟨fun b ob q n hb he => u.keep b ob q n (fun z => hb (hs b z)) fun z => he (hx b z), fun _ _ q n _ he => u.any q n fun z => he (hx _ z), fun b ob q n he => u.free b ob q n fun z => he (hx b z), fun b ob q he => u.there b ob q fun z => he (hx b z), u.tups, u.frzs, u.tbls⟩
end
def trk (h : Heap) (H : Hp) : List Addr := (List.range h.objs.size).filter fun a => (H a).isSome
def hidT (h : Heap) (H : Hp) : Heap := PySem.W.hideAll h (trk h H)
theorem hidT_size (h : Heap) (H : Hp) : (hidT h H).objs.size = h.objs.size := PySem.W.hideAll_size _ _
theorem hidT_get {h : Heap} {H : Hp} {b : Addr} {o : Obj} (e : h.get? b = some o) (n : H b = none) : (hidT h H).get? b = some o :=
  PySem.W.hideAll_get _ e fun hm => by
    have q : (H b).isSome = true := (List.mem_filter.mp hm).2
    rw [n] at q; simp at q
theorem of_hidT {h : Heap} {H : Hp} {b : Addr} {o : Obj} (e : (hidT h H).get? b = some o) : h.get? b = some o ∧ H b = none := by
  have e' : h.get? b = some o := PySem.W.of_hideAll (trk h H) e
  refine ⟨e', ?_⟩
  cases q : H b with
  | none => rfl
  | some x =>
    have hm : b ∈ trk h H := List.mem_filter.mpr ⟨List.mem_range.mpr (Heap.lt_size e'), by simp [q]⟩
    have z : (hidT h H).get? b = none := PySem.W.hideAll_none (trk h H) hm
    rw [z] at e; cases e
def allNews (g h : Heap) (L : Addr) : List (Addr × Obj) := (List.range h.objs.size).filterMap fun a => if a = L ∨ (g.get? a).isSome = true then none else (h.get? a).map fun o => (a, o)
def rest (g h : Heap) (L d : Addr) : List (Addr × Obj) := (allNews g h L).filter fun p => decide (p.1 ≠ d)
end L2
namespace L2
open PySem PySem.Spec PyProof.Rows
structure Mod (K : PySem.W.Frag) (mg : Str → Option Value) (base : Heap) : Prop where
  kin : K.In base
  glob : base.Ns mainGlobals mg
  blt : ∃ mb, base.Ns builtinsNs mb ∧ ∀ x : Str, x ≠ "__name__" → mb x = bootBuiltins x
  nolimit : base.NoLimit
structure Cx where
  prog : Program
  w : World
  K : PySem.W.Frag
  mg : Str → Option Value
  base : Heap
  A : Around
  N : List Str
  s_0 : Shared
  H_0 : Hp
  env : Env
  outer : List Env
  stack : List Env
  ex : List Addr
  fn : Str → Bool
  calm : Bool
  pn : List (Addr × Obj)
  xe : Value → Shared → Prop
def frs (l : List Env) : List Addr := l.filterMap (·.frame)
abbrev Cx.fs (X : Cx) : List Addr := frs X.outer
def Vis (sc : Scope) (x : Str) : Prop := sc.names.lookup x = some .local ∨ sc.names.lookup x = some .cell ∨ sc.names.lookup x = some .free
def Loc (sc : Scope) (x : Str) : Prop := sc.names.lookup x = some .local ∨ sc.names.lookup x = some .cell
def Look (env : Env) (h : Heap) (m : Str → Option Value) (x : Str) (u : Value) : Prop :=
  (env.kindOf x = some .local ∧ m x = some u) ∨ ((env.kindOf x = some .cell ∨ env.kindOf x = some .free) ∧ ∃ c, env.cells.lookup x = some c ∧ h.IsCell c (some u))
structure Cx.Ok (X : Cx) : Prop where
  mod : Mod X.K X.mg X.base
  kind : X.env.scope.kind = .function
  glob : X.env.globals = mainGlobals
  blt : X.env.builtins = builtinsNs
  above : X.s_0.heap.objs.size ≤ X.env.locals
  inj : ∀ x y c, X.env.cells.lookup x = some c → X.env.cells.lookup y = some c → x = y
  has : ∀ x, (X.env.kindOf x = some .cell ∨ X.env.kindOf x = some .free) → ∃ c, X.env.cells.lookup x = some c
  cab : ∀ x c, X.fn x = true → X.env.cells.lookup x = some c → X.s_0.heap.objs.size ≤ c
  hd : X.calm = true → X.A.handled = none
  frames : X.A.frames = some X.stack
  stk : X.stack = X.outer ∨ (X.stack = X.env :: X.outer ∧ X.env.frame = some X.env.locals)
  exf : ∀ b ∈ X.ex, b ≠ X.env.locals ∧ ∀ x c, X.env.cells.lookup x = some c → c ≠ b
  bs : ∀ b o, X.base.get? b = some o → X.s_0.heap.get? b = some o ∧ X.H_0 b = none
  bsz : X.base.objs.size ≤ X.s_0.heap.objs.size
  noex : ∀ b o, X.base.get? b = some o → b ∉ X.ex
  exfs : ∀ b ∈ X.ex, b ∉ X.fs
  funs : X.s_0.heap.FunFrames X.base X.outer
  frf : ∀ b ∈ X.fs, X.H_0 b = none
structure Inv (X : Cx) (pins : List (Addr × Obj)) (σ : List (Option V)) (H : Hp) (s : Shared) : Prop where
  ok : X.Ok
  os : s.os = X.s_0.os
  bare : AllBare s.gens
  base : Un X.fs X.ex X.H_0 H X.s_0.heap s.heap
  loc : ∃ m, s.heap.Ns X.env.locals m ∧ ∀ (i : Nat) (x : Str) (v : V), X.N[i]? = some x → σ[i]? = some (some v) → Vis X.env.scope x → ∃ u, RelV v u ∧ Look X.env s.heap m x u
  cell : ∀ x c, X.env.cells.lookup x = some c → ∃ v, s.heap.IsCell c v
  free : H X.env.locals = none
  freeC : ∀ x c, X.env.cells.lookup x = some c → H c = none
  pin : ∀ p ∈ X.pn ++ pins, s.heap.get? p.1 = some p.2 ∧ H p.1 = none ∧ p.1 ≠ X.env.locals ∧ p.1 ∉ X.fs ∧ ∀ v, p.2.data ≠ .cell v
  hok : HOk X.prog X.w H s.heap
  len : σ.length = X.N.length
section
variable {X : Cx} {pins : List (Addr × Obj)} {σ : List (Option V)} {H H' : Hp} {s : Shared} {h' : Heap}
theorem Cx.Ok.nofr (ok : X.Ok) {b : Addr} {o : Obj} (e : X.base.get? b = some o) : b ∉ X.fs := fun hb => by
  have := (ok.funs.mem hb).1
  rw [e] at this; cases this
theorem Inv.bs (I : Inv X pins σ H s) : ∀ b o, X.base.get? b = some o → s.heap.get? b = some o ∧ H b = none := fun b o e =>
  ⟨I.base.keep b o (I.ok.bs b o e).1 (I.ok.bs b o e).2 (I.ok.nofr e) (I.ok.noex b o e), I.base.free b o (I.ok.bs b o e).1 (I.ok.bs b o e).2 (I.ok.noex b o e)⟩
theorem Inv.bk (I : Inv X pins σ H s) : ∀ b o, X.base.get? b = some o → s.heap.get? b = some o := fun b o e => (I.bs b o e).1
theorem Inv.mod (I : Inv X pins σ H s) : Mod X.K X.mg X.base := I.ok.mod
theorem Inv.kIn (I : Inv X pins σ H s) : X.K.In s.heap := I.ok.mod.kin.keeps I.bk
theorem Inv.nolimit (I : Inv X pins σ H s) : s.heap.NoLimit := I.ok.mod.nolimit.keeps I.bk
theorem Inv.lt (I : Inv X pins σ H s) : X.env.locals < s.heap.objs.size := let ⟨_, hn, _⟩ := I.loc; hn.lt
theorem Inv.sz (I : Inv X pins σ H s) : X.s_0.heap.objs.size ≤ s.heap.objs.size := Nat.le_trans I.ok.above (Nat.le_of_lt I.lt)
theorem Inv.nofs (I : Inv X pins σ H s) {a : Addr} (h : s.heap.objs.size ≤ a) : a ∉ X.fs := fun hb => by
  obtain ⟨_, o, ho, _⟩ := I.ok.funs.mem hb
  exact absurd (Nat.lt_of_lt_of_le (Heap.lt_size ho) (Nat.le_trans I.sz h)) (Nat.lt_irrefl _)
theorem Inv.cne (I : Inv X pins σ H s) : ∀ x c, X.env.cells.lookup x = some c → c ≠ X.env.locals := fun x c e z => by
  obtain ⟨v, o, ho, hd⟩ := I.cell x c e
  obtain ⟨m, ⟨o', es, ep, ho', hd', _⟩, _⟩ := I.loc
  rw [z, ho'] at ho; cases ho; rw [hd'] at hd; cases hd
theorem Inv.funs (I : Inv X pins σ H s) : s.heap.FunFrames X.base X.outer := by
  have all : ∀ (l : List Env), (∀ b ∈ frs l, b ∈ X.fs) → X.s_0.heap.FunFrames X.base l → s.heap.FunFrames X.base l := by
    intro l
    induction l with
    | nil => intro _ _; trivial
    | cons env r ih =>
      intro hs hl
      obtain ⟨hk, ⟨L, o, hf, hn, ho, hd⟩, hr⟩ := hl
      have hL : L ∈ X.fs := hs L (by unfold frs; rw [List.filterMap_cons, hf]; exact List.mem_cons_self)
      obtain ⟨sl, e⟩ := I.base.slot L o ho (I.ok.frf L hL) hL fun z => I.ok.exfs L z hL
      exact ⟨hk, ⟨L, _, hf, hn, e, hd⟩, ih (fun b hb => hs b (by unfold frs; rw [List.filterMap_cons, hf]; exact List.mem_cons_of_mem _ hb)) hr⟩
  exact all X.outer (fun _ hb => hb) I.ok.funs
theorem Inv.stack (I : Inv X pins σ H s) : s.heap.FunFrames X.base X.stack := by
  rcases I.ok.stk with e | ⟨e, hf⟩
  · rw [e]; exact I.funs
  · rw [e]
    obtain ⟨m, hn, _⟩ := I.loc
    refine .cons (by rw [I.ok.kind]; decide) hf hn ?_ I.funs
    exact Heap.get?_none_of_le (Nat.le_trans I.ok.bsz I.ok.above)
theorem Inv.stkSub (I : Inv X pins σ H s) : ∀ b ∈ frs X.stack, b ∈ X.env.locals :: X.fs := fun b hb => by
  rcases I.ok.stk with e | ⟨e, hf⟩
  · rw [e] at hb; exact List.mem_cons_of_mem _ hb
  · rw [e] at hb
    unfold frs at hb
    rw [List.filterMap_cons, hf] at hb
    exact hb
theorem Inv.stkFree (I : Inv X pins σ H s) : ∀ b ∈ frs X.stack, H b = none := fun b hb => by
  rcases List.mem_cons.mp (I.stkSub b hb) with e | hb
  · rw [e]; exact I.free
  · obtain ⟨_, o, ho, _⟩ := I.ok.funs.mem hb
    exact I.base.free b o ho (I.ok.frf b hb) fun z => I.ok.exfs b z hb
theorem Inv.step {g' : Array GenState} {t' : Nat} {d' : Drawn} {ch : List Addr} (I : Inv X pins σ H s)
    (hch : ∀ b ∈ ch, (b ∈ X.ex ∨ X.s_0.heap.objs.size ≤ b) ∧ b ≠ X.env.locals ∧ (∀ x c, X.env.cells.lookup x = some c → c ≠ b) ∧ ∀ p ∈ X.pn ++ pins, p.1 ≠ b)
    (keep : ∀ b o, b ≠ X.env.locals → b ∉ X.fs → b ∉ ch → s.heap.get? b = some o → H b = none → h'.get? b = some o)
    (slot : ∀ b o, b ≠ X.env.locals → b ∈ X.fs → b ∉ ch → s.heap.get? b = some o → H b = none → ∃ sl, h'.get? b = some { o with slots := sl }) (free : ∀ b o, b ∉ ch → s.heap.get? b = some o → H b = none → H' b = none)
    (there : ∀ b o, b ∉ ch → s.heap.get? b = some o → ∃ o', h'.get? b = some o')
    (tups : ∀ b xs, H b = some (.tup xs) → H' b = some (.tup xs)) (frzs : ∀ b o u, H b = some (.frz o u) → H' b = some (.frz o u)) (tbls : ∀ b ps, H b = some (.tbl ps) → ∃ more, H' b = some (.tbl (ps ++ more)))
    (ns : ∀ m, s.heap.Ns X.env.locals m → h'.Ns X.env.locals m) (hok : HOk X.prog X.w H' h') (hg : AllBare g') :
    Inv X pins σ H' { s with heap := h', gens := g', drawn := d', toks := t' } := by
  have neL : ∀ b o, X.s_0.heap.get? b = some o → b ≠ X.env.locals := fun b o e => Nat.ne_of_lt (Nat.lt_of_lt_of_le (Heap.lt_size e) I.ok.above)
  have neC : ∀ b o, X.s_0.heap.get? b = some o → b ∉ X.ex → b ∉ ch := fun b o e hx hb => by
    rcases (hch b hb).1 with z | z
    · exact hx z
    · exact absurd (Nat.lt_of_lt_of_le (Heap.lt_size e) z) (Nat.lt_irrefl _)
  have cellK : ∀ x c, X.env.cells.lookup x = some c → ∀ v, s.heap.IsCell c v → h'.IsCell c v := fun x c e v ⟨o, ho, hd⟩ => by
    have nch : c ∉ ch := fun z => (hch c z).2.2.1 x c e rfl
    by_cases hc : c ∈ X.fs
    · obtain ⟨sl, q⟩ := slot c o (I.cne x c e) hc nch ho (I.freeC x c e)
      exact ⟨_, q, hd⟩
    · exact ⟨o, keep c o (I.cne x c e) hc nch ho (I.freeC x c e), hd⟩
  refine ⟨I.ok, I.os, hg, ⟨fun b o e n hb hx => ?_, fun b o e n hb hx => ?_, fun b o e n hx => ?_, fun b o e hx => ?_, fun b xs e => tups b xs (I.base.tups b xs e), fun b o xs e => frzs b o xs (I.base.frzs b o xs e), fun b ps e => ?_⟩, ?_, fun x c e => ?_, ?_, fun x c e => ?_, fun p hp => ?_, hok, I.len⟩
  · exact keep b o (neL b o e) hb (neC b o e hx) (I.base.keep b o e n hb hx) (I.base.free b o e n hx)
  · obtain ⟨sl, e1⟩ := I.base.slot b o e n hb hx
    obtain ⟨sl', e2⟩ := slot b _ (neL b o e) hb (neC b o e hx) e1 (I.base.free b o e n hx)
    exact ⟨sl', e2⟩
  · obtain ⟨o', e1⟩ := I.base.there b o e hx
    exact free b o' (neC b o e hx) e1 (I.base.free b o e n hx)
  · obtain ⟨o', e1⟩ := I.base.there b o e hx
    exact there b o' (neC b o e hx) e1
  · obtain ⟨m1, e1⟩ := I.base.tbls b ps e
    obtain ⟨m2, e2⟩ := tbls b _ e1
    exact ⟨m1 ++ m2, by rw [e2, Array.append_assoc]⟩
  · obtain ⟨m, hn, hl⟩ := I.loc
    refine ⟨m, ns m hn, fun i x v e1 e2 e3 => ?_⟩
    obtain ⟨u, r, l⟩ := hl i x v e1 e2 e3
    refine ⟨u, r, ?_⟩
    rcases l with l | ⟨k, c, e, z⟩
    · exact .inl l
    · exact .inr ⟨k, c, e, cellK x c e _ z⟩
  · obtain ⟨v, z⟩ := I.cell x c e
    exact ⟨v, cellK x c e v z⟩
  · obtain ⟨m, ⟨o, _, _, ho, _⟩, _⟩ := I.loc
    exact free _ o (fun z => (hch _ z).2.1 rfl) ho I.free
  · obtain ⟨v, o, ho, hd⟩ := I.cell x c e
    exact free c o (fun z => (hch c z).2.2.1 x c e rfl) ho (I.freeC x c e)
  · obtain ⟨e, n, ne, nf, d⟩ := I.pin p hp
    have nch : p.1 ∉ ch := fun z => (hch p.1 z).2.2.2 p hp rfl
    exact ⟨keep p.1 p.2 ne nf nch e n, free p.1 p.2 nch e n, ne, nf, d⟩
theorem Inv.un {t' : Nat} (I : Inv X pins σ H s) (u : Un X.fs [] H H' s.heap h') (hok : HOk X.prog X.w H' h') : Inv X pins σ H' { s with heap := h', toks := t' } := by
  obtain ⟨m, ⟨o, es, ep, ho, r⟩, _⟩ := id I.loc
  obtain ⟨sl, hL⟩ := u.any ho I.free (by simp)
  exact I.step (g' := s.gens) (d' := s.drawn) (ch := []) (fun _ z => nomatch z) (fun b o _ hb _ e n => u.keep b o e n hb (by simp)) (fun b o _ hb _ e n => u.slot b o e n hb (by simp)) (fun b o _ e n => u.free b o e n (by simp)) (fun b o _ e => u.there b o e (by simp)) u.tups u.frzs u.tbls (fun m' hm => by
    obtain ⟨o', es', ep', ho', r'⟩ := hm
    rw [ho] at ho'; cases ho'
    exact ⟨_, es', ep', hL, r'⟩) hok I.bare
theorem Inv.call {g' : Array GenState} {t' : Nat} {d' : Drawn} {ch : List Addr} (I : Inv X pins σ H s) (u : Un (frs X.stack) ch H H' s.heap h') (hok : HOk X.prog X.w H' h') (hg : AllBare g')
    (hch : ∀ b ∈ ch, (b ∈ X.ex ∨ X.s_0.heap.objs.size ≤ b) ∧ b ≠ X.env.locals ∧ (∀ x c, X.env.cells.lookup x = some c → c ≠ b) ∧ ∀ p ∈ X.pn ++ pins, p.1 ≠ b) :
    Inv X pins σ H' { s with heap := h', gens := g', drawn := d', toks := t' } := by
  obtain ⟨m, ⟨o, es, ep, ho, r⟩, _⟩ := id I.loc
  obtain ⟨sl, hL⟩ := u.any ho I.free fun z => (hch _ z).2.1 rfl
  exact I.step (ch := ch) hch (fun b o hL hb hc e n => u.keep b o e n (fun z => (List.mem_cons.mp (I.stkSub b z)).elim hL hb) hc) (fun b o _ _ hc e n => u.any e n hc) (fun b o hc e n => u.free b o e n hc) (fun b o hc e => u.there b o e hc) u.tups u.frzs u.tbls (fun m' hm => by
    obtain ⟨o', es', ep', ho', r'⟩ := hm
    rw [ho] at ho'; cases ho'
    exact ⟨_, es', ep', hL, r'⟩) hok hg
theorem Inv.turned {t' : Nat} {it : Addr} (I : Inv X pins σ H s) (k : ∀ b o, b ≠ it → s.heap.get? b = some o → h'.get? b = some o) (hn : H it = none) (hL : it ≠ X.env.locals)
    (h1 : it ∈ X.ex ∨ X.s_0.heap.objs.size ≤ it) (h2 : ∀ x c, X.env.cells.lookup x = some c → c ≠ it) (h3 : ∀ p ∈ X.pn ++ pins, p.1 ≠ it) : Inv X pins σ H { s with heap := h', toks := t' } := by
  have nit : ∀ b u, H b = some u → b ≠ it := fun b u e z => by rw [z, hn] at e; cases e
  refine I.step (g' := s.gens) (d' := s.drawn) (ch := [it]) (fun b hb => ?_) (fun b o _ _ hc e _ => k b o (fun z => hc (by simp [z])) e) (fun b o _ _ hc e _ => ⟨o.slots, k b o (fun z => hc (by simp [z])) e⟩) (fun _ _ _ _ n => n)
    (fun b o hc e => ⟨o, k b o (fun z => hc (by simp [z])) e⟩) (fun _ _ e => e) (fun _ _ _ e => e) (fun b ps e => ⟨#[], by rw [e]; simp⟩) (fun m hm => ?_) (fun b u e => ?_) I.bare
  · have e : b = it := by simpa using hb
    subst e
    exact ⟨h1, hL, h2, h3⟩
  · obtain ⟨o, es, ep, ho, r⟩ := hm
    exact ⟨o, es, ep, k _ o (Ne.symm hL) ho, r⟩
  · refine (I.hok b u e).stay (fun c v hc q => k c v ?_ q) (fun _ q => q) fun _ _ q => q
    rcases hc with z | z
    · rw [z]; exact nit b u e
    · exact nit c _ z
theorem Inv.tok (I : Inv X pins σ H s) (t : Nat) : Inv X pins σ H { s with toks := t } := I.un (h' := s.heap) (t' := t) Un.refl I.hok
theorem Inv.kept {t' : Nat} (I : Inv X pins σ H s) (k : ∀ b u, s.heap.get? b = some u → h'.get? b = some u) : Inv X pins σ H { s with heap := h', toks := t' } := I.un (Un.kept k) (I.hok.kept k)
theorem Inv.laid {a : Addr} {o : HO} {t' : Nat} (I : Inv X pins σ H s) (k : ∀ b u, s.heap.get? b = some u → h'.get? b = some u) (hp : s.heap.objs.size ≤ a) (new : ObjOk X.prog X.w (upd H a o) h' a o) :
    Inv X pins σ (upd H a o) { s with heap := h', toks := t' } := I.un (Un.laid k hp (I.hok.fresh hp)) (I.hok.laid k hp new)
theorem Inv.write {x e : Addr} {o : HO} {t' : Nat} (I : Inv X pins σ H s) (mu : Mut (H x)) (he : e = x ∨ H e = some (.own x)) (k : ∀ b u, b ≠ e → s.heap.get? b = some u → h'.get? b = some u) (heo : ∃ u, h'.get? e = some u)
    (new : ObjOk X.prog X.w (upd H x o) h' x o) : Inv X pins σ (upd H x o) { s with heap := h', toks := t' } := I.un (Un.write mu he k heo) (I.hok.write mu he k heo new)
theorem Inv.weak {σ' : List (Option V)} (I : Inv X pins σ H s) (hl : σ'.length = σ.length) (w : ∀ (i : Nat) v, σ'[i]? = some (some v) → σ[i]? = some (some v)) : Inv X pins σ' H s :=
  ⟨I.ok, I.os, I.bare, I.base, let ⟨m, hn, hl'⟩ := I.loc; ⟨m, hn, fun i x v e1 e2 e3 => hl' i x v e1 (w i v e2) e3⟩, I.cell, I.free, I.freeC, I.pin, I.hok, hl.trans I.len⟩
theorem Inv.pins_of {pins' : List (Addr × Obj)} (I : Inv X pins σ H s) (h : ∀ p ∈ pins', s.heap.get? p.1 = some p.2 ∧ H p.1 = none ∧ p.1 ≠ X.env.locals ∧ p.1 ∉ X.fs ∧ ∀ v, p.2.data ≠ .cell v) : Inv X pins' σ H s :=
  ⟨I.ok, I.os, I.bare, I.base, I.loc, I.cell, I.free, I.freeC, fun p hp => (List.mem_append.mp hp).elim (fun z => I.pin p (List.mem_append_left _ z)) (h p), I.hok, I.len⟩
theorem nodup_ix {N : List Str} (hN : N.Nodup) {i j : Nat} {x : Str} (a : N[i]? = some x) (b : N[j]? = some x) : i = j := by
  obtain ⟨h1, e1⟩ := List.getElem?_eq_some_iff.mp a
  obtain ⟨h2, e2⟩ := List.getElem?_eq_some_iff.mp b
  exact (List.getElem_inj hN).mp (e1.trans e2.symm)
theorem store_ok2 {M : Model} {A : Around} {E : Value → Shared → Prop} {i : Nat} {x : Str} {v : V} {u : Value} {Q : Unit → Shared → Prop} (I : Inv X pins σ H s) (hN : X.N.Nodup) (hi : X.N[i]? = some x) (hx : Loc X.env.scope x) (r : RelV v u)
    (h : ∀ s', Inv X pins (σ.set i (some v)) H s' → (∃ a, Heap.SameBut a s.heap s'.heap ∧ (a = X.env.locals ∨ X.env.cells.lookup x = some a)) → Q () s') (hf : X.fn x = true ∨ X.env.scope.names.lookup x = some .local := by first | exact .inl rfl | exact .inr rfl | assumption) : wpAny M A (storeName X.env x u) Q E s := by
  obtain ⟨m, hn, hl⟩ := id I.loc
  have hcls : (X.env.scope.kind == .class || (X.env.scope.kind == .module && X.env.locals != X.env.globals)) = false := by rw [I.ok.kind]; rfl
  have hiσ : i < σ.length := by rw [I.len]; exact (List.getElem?_eq_some_iff.mp hi).1
  have cne := I.cne
  have tracked : ∀ {a : Addr} {h' : Heap}, (∃ o, s.heap.get? a = some o ∧ H a = none) → Heap.SameBut a s.heap h' → HOk X.prog X.w H h' := fun {a h'} ha hs b ob e => by
    obtain ⟨_, _, hfree⟩ := ha
    refine (I.hok b ob e).stay (fun c w' hc q => (hs.2 c ?_).trans q) (fun _ q => q) fun _ _ q => q
    rintro rfl
    rcases hc with rfl | hc
    · rw [hfree] at e; cases e
    · rw [hfree] at hc; cases hc
  rcases hx with hk | hk
  · refine wpAny_storeName_local hk hn (fun h' hn' hs => ?_) hcls
    obtain ⟨oL, _, _, hoL, _⟩ := id hn
    refine h _ ⟨I.ok, I.os, I.bare, ⟨fun b o e n hb hx => ?_, fun b o e n hb hx => ?_, I.base.free, fun b o e hx => ?_, I.base.tups, I.base.frzs, I.base.tbls⟩, ⟨_, hn', fun j y v' e1 e2 e3 => ?_⟩, fun y c e => ?_, I.free, I.freeC, fun p hp => ?_, tracked ⟨oL, hoL, I.free⟩ hs, by simpa using I.len⟩ ⟨_, hs, .inl rfl⟩
    · exact (hs.2 b (Nat.ne_of_lt (Nat.lt_of_lt_of_le (Heap.lt_size e) I.ok.above))).trans (I.base.keep b o e n hb hx)
    · obtain ⟨sl, e1⟩ := I.base.slot b o e n hb hx
      exact ⟨sl, (hs.2 b (Nat.ne_of_lt (Nat.lt_of_lt_of_le (Heap.lt_size e) I.ok.above))).trans e1⟩
    · obtain ⟨o', e1⟩ := I.base.there b o e hx
      exact ⟨o', (hs.2 b (Nat.ne_of_lt (Nat.lt_of_lt_of_le (Heap.lt_size e) I.ok.above))).trans e1⟩
    · by_cases hj : j = i
      · subst hj
        rw [hi] at e1; cases e1
        rw [List.getElem?_set_self hiσ] at e2
        cases e2
        exact ⟨u, r, .inl ⟨hk, by simp⟩⟩
      · rw [List.getElem?_set_ne (Ne.symm hj)] at e2
        obtain ⟨u', r', q⟩ := hl j y v' e1 e2 e3
        refine ⟨u', r', ?_⟩
        rcases q with ⟨k, e⟩ | ⟨k, c, e, z⟩
        · refine .inl ⟨k, ?_⟩
          have : y ≠ x := fun e => hj (nodup_ix hN e1 (e ▸ hi))
          simp [this, e]
        · exact .inr ⟨k, c, e, z.sameBut hs (cne y c e)⟩
    · obtain ⟨w', z⟩ := I.cell y c e
      exact ⟨w', z.sameBut hs (cne y c e)⟩
    · obtain ⟨e, n, ne, nf, d⟩ := I.pin p hp
      exact ⟨(hs.2 p.1 ne).trans e, n, ne, nf, d⟩
  · have hfn : X.fn x = true := by
      rcases hf with z | z
      · exact z
      · rw [z] at hk; cases hk
    obtain ⟨c, hc⟩ := I.ok.has x (.inl hk)
    obtain ⟨w', z⟩ := I.cell x c hc
    refine wpAny_storeName_cell I.ok.kind hk hc z (fun h' hc' hs => ?_)
    obtain ⟨oc, hoc, hocd⟩ := id z
    refine h { s with heap := h' } ⟨I.ok, I.os, I.bare, ⟨fun b o e n hb hx => ?_, fun b o e n hb hx => ?_, I.base.free, fun b o e hx => ?_, I.base.tups, I.base.frzs, I.base.tbls⟩, ⟨m, hn.sameBut hs (Ne.symm (cne x c hc)), fun j y v' e1 e2 e3 => ?_⟩, fun y c' e => ?_, I.free, I.freeC, fun p hp => ?_, tracked ⟨oc, hoc, I.freeC x c hc⟩ hs, by simpa using I.len⟩ ⟨c, hs, .inr hc⟩
    · exact (hs.2 b (Nat.ne_of_lt (Nat.lt_of_lt_of_le (Heap.lt_size e) (I.ok.cab x c hfn hc)))).trans (I.base.keep b o e n hb hx)
    · obtain ⟨sl, e1⟩ := I.base.slot b o e n hb hx
      exact ⟨sl, (hs.2 b (Nat.ne_of_lt (Nat.lt_of_lt_of_le (Heap.lt_size e) (I.ok.cab x c hfn hc)))).trans e1⟩
    · obtain ⟨o', e1⟩ := I.base.there b o e hx
      exact ⟨o', (hs.2 b (Nat.ne_of_lt (Nat.lt_of_lt_of_le (Heap.lt_size e) (I.ok.cab x c hfn hc)))).trans e1⟩
    · by_cases hj : j = i
      · subst hj
        rw [hi] at e1; cases e1
        rw [List.getElem?_set_self hiσ] at e2
        cases e2
        exact ⟨u, r, .inr ⟨.inl hk, c, hc, hc'⟩⟩
      · rw [List.getElem?_set_ne (Ne.symm hj)] at e2
        obtain ⟨u', r', q⟩ := hl j y v' e1 e2 e3
        refine ⟨u', r', ?_⟩
        rcases q with q | ⟨k, c', e, z'⟩
        · exact .inl q
        · refine .inr ⟨k, c', e, z'.sameBut hs ?_⟩
          rintro rfl
          exact hj (nodup_ix hN e1 (I.ok.inj _ _ _ e hc ▸ hi))
    · by_cases hcc : c' = c
      · subst hcc; exact ⟨_, hc'⟩
      · obtain ⟨w2, z2⟩ := I.cell y c' e
        exact ⟨w2, z2.sameBut hs hcc⟩
    · obtain ⟨e, n, ne, nf, d⟩ := I.pin p hp
      refine ⟨(hs.2 p.1 ?_).trans e, n, ne, nf, d⟩
      intro q
      rw [q, hoc] at e
      have q' : oc = p.2 := Option.some.inj e
      exact d w' (by rw [← q']; exact hocd)
theorem store_ok {M : Model} {A : Around} {E : Value → Shared → Prop} {i : Nat} {x : Str} {v : V} {u : Value} {Q : Unit → Shared → Prop} (I : Inv X pins σ H s) (hN : X.N.Nodup) (hi : X.N[i]? = some x) (hx : Loc X.env.scope x) (r : RelV v u)
    (h : ∀ s', Inv X pins (σ.set i (some v)) H s' → Q () s') (hf : X.fn x = true ∨ X.env.scope.names.lookup x = some .local := by first | exact .inl rfl | exact .inr rfl | assumption) : wpAny M A (storeName X.env x u) Q E s :=
  store_ok2 I hN hi hx r (fun s' I' _ => h s' I') hf
theorem Inv.call' {s' : Shared} {ch : List Addr} (I : Inv X pins σ H s) (ho : s'.os = s.os) (u : Un (frs X.stack) ch H H' s.heap s'.heap) (hok : HOk X.prog X.w H' s'.heap) (hg : AllBare s'.gens)
    (hch : ∀ b ∈ ch, (b ∈ X.ex ∨ X.s_0.heap.objs.size ≤ b) ∧ b ≠ X.env.locals ∧ (∀ x c, X.env.cells.lookup x = some c → c ≠ b) ∧ ∀ p ∈ X.pn ++ pins, p.1 ≠ b) : Inv X pins σ H' s' := by
  obtain ⟨h', g', d', t', o'⟩ := s'
  have e : o' = s.os := ho
  subst e
  exact I.call (g' := g') (t' := t') (d' := d') u hok hg hch
end
abbrev XK := Value → Option Addr → Hp → Prop
abbrev St := List (Option V)
abbrev VK := V → Hp → Prop
abbrev TE := St → Hp → VK → Prop
abbrev TT := St → Hp → (Bool → Hp → Prop) → Prop
abbrev TA := St → Hp → (List V → Hp → Prop) → Prop
structure Ends where
  nx : St → Hp → Prop
  rt : VK
  bk : St → Hp → Prop := fun _ _ => False
  ct : St → Hp → Prop := fun _ _ => False
abbrev TS := Ends → St → Hp → Prop
def EP (X : Cx) (pins : List (Addr × Obj)) (σ : St) (Q : VK) (u : Value) (s' : Shared) : Prop := ∃ v H', Inv X pins σ H' s' ∧ RelV v u ∧ Q v H'
def TP (X : Cx) (pins : List (Addr × Obj)) (σ : St) (Q : Bool → Hp → Prop) (b : Bool) (s' : Shared) : Prop := ∃ H', Inv X pins σ H' s' ∧ Q b H'
def AP (X : Cx) (pins : List (Addr × Obj)) (σ : St) (Q : List V → Hp → Prop) (us : List Value) (s' : Shared) : Prop := ∃ vs H', Inv X pins σ H' s' ∧ Vals vs us ∧ Q vs H'
def SP (X : Cx) (pins : List (Addr × Obj)) (D : Ends) (f : Flow) (s' : Shared) : Prop :=
  match f with
  | .next => ∃ σ' H', Inv X pins σ' H' s' ∧ D.nx σ' H'
  | .brk => ∃ σ' H', Inv X pins σ' H' s' ∧ D.bk σ' H'
  | .cont => ∃ σ' H', Inv X pins σ' H' s' ∧ D.ct σ' H'
  | .ret u => ∃ v σ' H', Inv X pins σ' H' s' ∧ RelV v u ∧ D.rt v H'
def PE (X : Cx) (e : Expr) (t : TE) : Prop :=
  ∀ (pins : List (Addr × Obj)) (s : Shared) (σ : St) (H : Hp) (Q : VK), Inv X pins σ H s → t σ H Q → wpAny (model X.prog X.w) X.A (eval e X.env) (EP X pins σ Q) X.xe s
def PT (X : Cx) (e : Expr) (t : TT) : Prop :=
  ∀ (pins : List (Addr × Obj)) (s : Shared) (σ : St) (H : Hp) (Q : Bool → Hp → Prop), Inv X pins σ H s → t σ H Q → wpAny (model X.prog X.w) X.A (isTrue e X.env (eval e X.env)) (TP X pins σ Q) X.xe s
def PW (X : Cx) (e : Expr) (t : TT) : Prop :=
  ∀ (whole : Sem Value) (pins : List (Addr × Obj)) (s : Shared) (σ : St) (H : Hp) (Q : Bool → Hp → Prop), Inv X pins σ H s → t σ H Q → wpAny (model X.prog X.w) X.A (isTrue e X.env whole) (TP X pins σ Q) X.xe s
theorem PW.pt {X : Cx} {e : Expr} {t : TT} (h : PW X e t) : PT X e t := h _
def PA (X : Cx) (es : List Expr) (t : TA) : Prop :=
  ∀ (pos : Pos) (pins : List (Addr × Obj)) (s : Shared) (σ : St) (H : Hp) (Q : List V → Hp → Prop), Inv X pins σ H s → t σ H Q → wpAny (model X.prog X.w) X.A (spliced (backTo pos (starEach es X.env))) (AP X pins σ Q) X.xe s
def PS (X : Cx) (st : Stmt) (t : TS) : Prop :=
  ∀ (pins : List (Addr × Obj)) (s : Shared) (σ : St) (H : Hp) (D : Ends), Inv X pins σ H s → t D σ H → wpAny (model X.prog X.w) X.A (exec st X.env) (SP X pins D) X.xe s
def PSs (X : Cx) (st : List Stmt) (t : TS) : Prop :=
  ∀ (pins : List (Addr × Obj)) (s : Shared) (σ : St) (H : Hp) (D : Ends), Inv X pins σ H s → t D σ H → wpAny (model X.prog X.w) X.A (execs st X.env) (SP X pins D) X.xe s
theorem thn {α : Type} {t : Sem α} {Q Q' : α → Shared → Prop} {M : Model} {A : Around} {E : Value → Shared → Prop} {s : Shared} (h : wpAny M A t Q E s) (hQ : ∀ a s, Q a s → Q' a s) : wpAny M A t Q' E s := wpAny_mono h hQ fun _ _ x => x
end L2
namespace L2
open PySem PySem.Spec PyProof.Rows
section
variable {X : Cx}
def tVar (i : Nat) : TE := fun σ H Q => ∃ v, σ[i]? = some (some v) ∧ Q v H
def tC (v : V) : TE := fun _ H Q => Q v H
theorem pe_var {i : Nat} {x : Str} {pos : Pos} (hN : X.N[i]? = some x) (hv : Vis X.env.scope x) (hd : (x == ("__debug__" : Str)) = false := by decide) (hcd : (x == ("__classdict__" : Str)) = false := by decide) : PE X (.Name x pos) (tVar i) := by
  intro pins s σ H Q I h
  obtain ⟨v, e, h⟩ := h
  obtain ⟨m, hn, hl⟩ := I.loc
  obtain ⟨u, r, l⟩ := hl i x v hN e hv
  have fin : EP X pins σ Q u s := ⟨v, H, I, r, h⟩
  rcases l with ⟨hk, hm⟩ | ⟨hk, c, hc, hcell⟩
  · exact wpAny_Name (wpAny_loadName_local I.ok.kind hk hn hm fin) hd
  · rcases hk with hk | hk
    · exact wpAny_Name (wpAny_loadName_cell I.ok.kind hk hc hcell fin) hd
    · exact wpAny_Name (wpAny_loadName_free I.ok.kind hk hc hcell fin hcd) hd
theorem pe_int {i j pos} : PE X (.Constant (.int i) j pos) (tC (.int i)) := fun _ _ _ H _ I h => wpAny_Constant_int ⟨.int i, H, I.tok _, ⟨_, rfl⟩, h⟩
theorem pe_bl {b j pos} : PE X (.Constant (.bool b) j pos) (tC (.bl b)) := fun _ _ _ H _ I h => Constant_bool ⟨.bl b, H, I, rfl, h⟩
theorem pe_non {j pos} : PE X (.Constant .none j pos) (tC .non) := fun _ _ _ H _ I h => Constant_none ⟨.non, H, I, rfl, h⟩
def Gl (X : Cx) (x : Str) : Prop := X.env.kindOf x = some .globalImplicit
theorem ld_glob {E : Value → Shared → Prop} {pins : List (Addr × Obj)} {s : Shared} {σ : St} {H : Hp} {x : Str} {u : Value} {pos : Pos} {Q : Value → Shared → Prop} (I : Inv X pins σ H s) (hg : Gl X x) (hm : X.mg x = some u) (h : Q u s)
    (hd : (x == ("__debug__" : Str)) = false := by decide) : wpAny (model X.prog X.w) X.A (eval (.Name x pos) X.env) Q E s :=
  Calls.Name_function_global I.ok.kind hg (Calls.loadGlobal_global (by rw [I.ok.glob]; exact I.mod.glob.keeps I.bk) hm h) hd
theorem ld_blt {E : Value → Shared → Prop} {pins : List (Addr × Obj)} {s : Shared} {σ : St} {H : Hp} {x : Str} {u : Value} {pos : Pos} {Q : Value → Shared → Prop} (I : Inv X pins σ H s) (hg : Gl X x) (hm : X.mg x = none) (hv : bootBuiltins x = some u) (h : Q u s)
    (hn : x ≠ "__name__" := by decide) (hd : (x == ("__debug__" : Str)) = false := by decide) : wpAny (model X.prog X.w) X.A (eval (.Name x pos) X.env) Q E s := by
  obtain ⟨mb, h1, h2⟩ := I.mod.blt
  exact Calls.Name_function_global I.ok.kind hg (Calls.loadGlobal_builtin (by rw [I.ok.glob]; exact I.mod.glob.keeps I.bk) hm (by rw [I.ok.blt]; exact h1.keeps I.bk) ((h2 x hn).trans hv) h) hd
theorem pe_glob {x : Str} {v : V} {u : Value} {pos : Pos} (hg : Gl X x) (hm : X.mg x = some u) (r : RelV v u) (hd : (x == ("__debug__" : Str)) = false := by decide) : PE X (.Name x pos) (tC v) :=
  fun _ _ _ H _ I h => ld_glob I hg hm ⟨v, H, I, r, h⟩ hd
variable {a b : Expr} {ta tb : TE} {pos : Pos}
variable {tA tB' : TT} {rest : List Expr}
def tAnd (t u : TT) : TT := fun σ H Q => t σ H fun c H1 => if c = true then u σ H1 Q else Q false H1
def tOr (t u : TT) : TT := fun σ H Q => t σ H fun c H1 => if c = true then Q true H1 else u σ H1 Q
def tNot (t : TT) : TT := fun σ H Q => t σ H fun c H1 => Q (!c) H1
theorem pw_and1 (ha : PT X a tA) : PW X (.BoolOp .And [a] pos) tA := by
  intro wh pins s σ H Q I h
  refine isTrue_and (thn (ha pins s σ H Q I h) fun c s1 e => ?_)
  cases c with
  | true => exact isTrue_and_nil e
  | false => exact e
theorem pw_or1 (ha : PT X a tA) : PW X (.BoolOp .Or [a] pos) tA := by
  intro wh pins s σ H Q I h
  refine isTrue_or (thn (ha pins s σ H Q I h) fun c s1 e => ?_)
  cases c with
  | false => exact isTrue_or_nil e
  | true => exact e
theorem pw_and (ha : PT X a tA) (hb : PW X (.BoolOp .And (b :: rest) pos) tB') : PW X (.BoolOp .And (a :: b :: rest) pos) (tAnd tA tB') := by
  intro wh pins s σ H Q I h
  refine isTrue_and (thn (ha pins s σ H _ I h) fun c s1 ⟨H1, I1, q1⟩ => ?_)
  cases c with
  | true => exact hb wh pins s1 σ H1 Q I1 q1
  | false => exact ⟨H1, I1, q1⟩
theorem pw_or (ha : PT X a tA) (hb : PW X (.BoolOp .Or (b :: rest) pos) tB') : PW X (.BoolOp .Or (a :: b :: rest) pos) (tOr tA tB') := by
  intro wh pins s σ H Q I h
  refine isTrue_or (thn (ha pins s σ H _ I h) fun c s1 ⟨H1, I1, q1⟩ => ?_)
  cases c with
  | true => exact ⟨H1, I1, q1⟩
  | false => exact hb wh pins s1 σ H1 Q I1 q1
theorem pt_not (ha : PT X a tA) : PT X (.UnaryOp .Not a pos) (tNot tA) := by
  intro pins s σ H Q I h
  exact isTrue_not (ha pins s σ H (fun c H1 => Q (!c) H1) I h)
def tOrV (ta tb : TE) : TE := fun σ H Q => ta σ H fun x H1 => ∃ c, x = .bl c ∧ if c = true then Q (.bl true) H1 else tb σ H1 Q
theorem pe_one {op} {t : TE} (h : PE X a t) : PE X (.BoolOp op [a] pos) t := fun pins s σ H Q I hw => BoolOp_one (h pins s σ H Q I hw)
theorem pe_or (ha : PE X a ta) (hb : PE X (.BoolOp .Or (b :: rest) pos) tb) : PE X (.BoolOp .Or (a :: b :: rest) pos) (tOrV ta tb) := by
  intro pins s σ H Q I h
  refine BoolOp_or (thn (ha pins s σ H _ I h) fun v s1 ⟨x, H1, I1, r1, q1⟩ => ?_)
  obtain ⟨c, rfl, q1⟩ := q1
  cases r1
  refine wpAny_truthy_bool ?_
  cases c with
  | false => exact hb pins s1 σ H1 Q I1 q1
  | true => exact ⟨.bl true, H1, I1, rfl, q1⟩
def tIf (t : TT) (ta tb : TE) : TE := fun σ H Q => t σ H fun c H1 => if c = true then ta σ H1 Q else tb σ H1 Q
theorem pe_ifExp {c : Expr} (hc : PT X c tA) (ha : PE X a ta) (hb : PE X b tb) : PE X (.IfExp c a b pos) (tIf tA ta tb) := by
  intro pins s σ H Q I h
  refine wpAny_IfExp (thn (hc pins s σ H _ I h) fun d s1 ⟨H1, I1, q1⟩ => ?_)
  cases d with
  | true => exact ha pins s1 σ H1 Q I1 q1
  | false => exact hb pins s1 σ H1 Q I1 q1
end
end L2
namespace L2
open PySem PySem.Spec PyProof.Rows
def SqL (K : PySem.W.Frag) (H : Hp) (a : Addr) (xs : List V) : Prop :=
  Rd H a (.lst xs) ∨
    ∃ (o : Obj) (its : Array Value) (n : Nat), K.lookup a = some o ∧ o.cls = .type "list" ∧ o.dict = none ∧ o.data = .seq its n ∧ its.size ≤ sizeLine ∧ Vals xs its.toList
def SqT (K : PySem.W.Frag) (H : Hp) (a : Addr) (xs : List V) : Prop :=
  Rd H a (.tup xs) ∨
    ∃ (o : Obj) (its : Array Value) (n : Nat), K.lookup a = some o ∧ o.cls = .type "tuple" ∧ o.data = .seq its n ∧ its.size ≤ sizeLine ∧ Vals xs its.toList
def absV : Value → Option V
  | .none => some .non
  | .bool b => some (.bl b)
  | .int i _ => some (.int i)
  | .str x _ => some (.str x)
  | .bytes b _ => some (.byt b)
  | .float b _ => some (.flt b)
  | .ref a => some (.ref a)
  | .type n => some (.ty n)
  | _ => none
theorem RelV.abs {x : V} {u : Value} (r : RelV x u) : absV u = some x := by
  cases x with
  | non => cases r; rfl
  | bl _ => cases r; rfl
  | int _ => obtain ⟨t, rfl⟩ := r; rfl
  | str _ => obtain ⟨t, rfl⟩ := r; rfl
  | byt _ => obtain ⟨t, rfl⟩ := r; rfl
  | flt _ => obtain ⟨t, rfl⟩ := r; rfl
  | ref _ => cases r; rfl
  | ty _ => cases r; rfl
theorem RelV.inj {x y : V} {u : Value} (r : RelV x u) (q : RelV y u) : x = y := Option.some.inj (r.abs.symm.trans q.abs)
theorem Vals.inj : ∀ {xs ys : List V} {us : List Value}, Vals xs us → Vals ys us → xs = ys
  | _, _, _, .nil, .nil => rfl
  | _, _, _, .cons r t, .cons r' t' => by rw [r.inj r', Vals.inj t t']
section
variable {X : Cx} {pins : List (Addr × Obj)} {σ : St} {H : Hp} {s : Shared} {a : Addr} {xs ys : List V}
theorem SqL.of {K : PySem.W.Frag} (h : H a = some (.lst xs)) : SqL K H a xs := .inl (.inl h)
theorem SqT.of {K : PySem.W.Frag} (h : H a = some (.tup xs)) : SqT K H a xs := .inl (.inl h)
theorem Inv.list (I : Inv X pins σ H s) (h : SqL X.K H a xs) : ∃ its : List Value, Vals xs its ∧ PlainL s.heap a its.toArray ∧ xs.length ≤ sizeLine := by
  rcases h with h | ⟨o, its, n, hk, hc, hd, hs, hz, r⟩
  · obtain ⟨z, its, n, r, e⟩ := h.ok I.hok
    exact ⟨its, r, ⟨_, n, e, rfl, rfl, rfl⟩, z⟩
  · refine ⟨its.toList, r, ⟨o, n, I.kIn a o hk, hc, hd, by simpa using hs⟩, ?_⟩
    have e := r.length
    simp only [Array.length_toList] at e
    omega
theorem Inv.tuple (I : Inv X pins σ H s) (h : SqT X.K H a xs) : ∃ its : List Value, Vals xs its ∧ IsTup s.heap a its.toArray ∧ xs.length ≤ sizeLine := by
  rcases h with h | ⟨o, its, n, hk, hc, hs, hz, r⟩
  · obtain ⟨z, its, r, p⟩ := h.ok I.hok
    exact ⟨its, r, p, z⟩
  · refine ⟨its.toList, r, ⟨o, I.kIn a o hk, hc, n, by simpa using hs⟩, ?_⟩
    have e := r.length
    simp only [Array.length_toList] at e
    omega
theorem Inv.list_inj (I : Inv X pins σ H s) (h : SqL X.K H a xs) (h' : SqL X.K H a ys) : xs = ys := by
  obtain ⟨its, r, ⟨o, n, e, _, _, d⟩, _⟩ := I.list h
  obtain ⟨its', r', ⟨o', n', e', _, _, d'⟩, _⟩ := I.list h'
  rw [e] at e'; cases e'
  rw [d] at d'
  injection d' with d1 _
  have : its = its' := by simpa using congrArg Array.toList d1
  subst this
  exact r.inj r'
theorem Inv.tuple_inj (I : Inv X pins σ H s) (h : SqT X.K H a xs) (h' : SqT X.K H a ys) : xs = ys := by
  obtain ⟨its, r, ⟨o, e, _, n, d⟩, _⟩ := I.tuple h
  obtain ⟨its', r', ⟨o', e', _, n', d'⟩, _⟩ := I.tuple h'
  rw [e] at e'; cases e'
  rw [d] at d'
  injection d' with d1 _
  have : its = its' := by simpa using congrArg Array.toList d1
  subst this
  exact r.inj r'
end
abbrev Cx.wish (X : Cx) (E : Value → Shared → Prop) : Cx := { X with xe := E }
abbrev Cx.nox (X : Cx) : Cx := X.wish fun _ _ => False
theorem Cx.Ok.wish {X : Cx} (ok : X.Ok) (E : Value → Shared → Prop) : (X.wish E).Ok :=
  ⟨ok.mod, ok.kind, ok.glob, ok.blt, ok.above, ok.inj, ok.has, ok.cab, ok.hd, ok.frames, ok.stk, ok.exf, ok.bs, ok.bsz, ok.noex, ok.exfs, ok.funs, ok.frf⟩
theorem Cx.Ok.unwish {X : Cx} {E : Value → Shared → Prop} (ok : (X.wish E).Ok) : X.Ok :=
  ⟨ok.mod, ok.kind, ok.glob, ok.blt, ok.above, ok.inj, ok.has, ok.cab, ok.hd, ok.frames, ok.stk, ok.exf, ok.bs, ok.bsz, ok.noex, ok.exfs, ok.funs, ok.frf⟩
section
variable {X : Cx} {pins : List (Addr × Obj)} {σ : St} {H : Hp} {s : Shared} {E : Value → Shared → Prop}
theorem Inv.wish (I : Inv X pins σ H s) (E : Value → Shared → Prop) : Inv (X.wish E) pins σ H s := ⟨I.ok.wish E, I.os, I.bare, I.base, I.loc, I.cell, I.free, I.freeC, I.pin, I.hok, I.len⟩
theorem Inv.unwish (I : Inv (X.wish E) pins σ H s) : Inv X pins σ H s := ⟨I.ok.unwish, I.os, I.bare, I.base, I.loc, I.cell, I.free, I.freeC, I.pin, I.hok, I.len⟩
theorem SP.unwish {D : Ends} {f : Flow} {s' : Shared} (h : SP (X.wish E) pins D f s') : SP X pins D f s' := by
  cases f with
  | next => obtain ⟨σ', H', I, q⟩ := h; exact ⟨σ', H', I.unwish, q⟩
  | brk => obtain ⟨σ', H', I, q⟩ := h; exact ⟨σ', H', I.unwish, q⟩
  | cont => obtain ⟨σ', H', I, q⟩ := h; exact ⟨σ', H', I.unwish, q⟩
  | ret u => obtain ⟨v, σ', H', I, r, q⟩ := h; exact ⟨v, σ', H', I.unwish, r, q⟩
theorem PE.nox {e : Expr} {t : TE} (h : PE X.nox e t) : PE X e t := fun pins s σ H Q I hw =>
  wpAny_mono (h pins s σ H Q (I.wish _) hw) (fun _ _ ⟨v, H', I', r, q⟩ => ⟨v, H', I'.unwish, r, q⟩) fun _ _ z => False.elim z
theorem PT.nox {e : Expr} {t : TT} (h : PT X.nox e t) : PT X e t := fun pins s σ H Q I hw =>
  wpAny_mono (h pins s σ H Q (I.wish _) hw) (fun _ _ ⟨H', I', q⟩ => ⟨H', I'.unwish, q⟩) fun _ _ z => False.elim z
theorem PSs.nox {st : List Stmt} {t : TS} (h : PSs X.nox st t) : PSs X st t := fun pins s σ H D I hw =>
  wpAny_mono (h pins s σ H D (I.wish _) hw) (fun _ _ q => q.unwish) fun _ _ z => False.elim z
end
section
variable {X : Cx} {st : Stmt} {rest : List Stmt} {t u : TS} {e : Expr} {te : TE} {pos : Pos}
def tNext : TS := fun D σ H => D.nx σ H
def tSeq (t u : TS) : TS := fun D σ H => t { D with nx := u D } σ H
theorem pss_nil : PSs X [] tNext := fun _ _ σ H _ I h => wpAny_execs_nil ⟨σ, H, I, h⟩
theorem pss_cons (h1 : PS X st t) (h2 : PSs X rest u) : PSs X (st :: rest) (tSeq t u) := by
  intro pins s σ H D I h
  refine wpAny_execs_cons (thn (h1 pins s σ H { D with nx := u D } I h) fun f s1 q => ?_)
  cases f with
  | next =>
    obtain ⟨σ', H', I', q⟩ := q
    exact h2 pins s1 σ' H' D I' q
  | ret v => exact q
  | brk => exact q
  | cont => exact q
theorem pss_one (h1 : PS X st t) : PSs X [st] t := by
  intro pins s σ H D I h
  refine wpAny_execs_cons (thn (h1 pins s σ H D I h) fun f s1 q => ?_)
  cases f with
  | next => exact wpAny_execs_nil q
  | ret v => exact q
  | brk => exact q
  | cont => exact q
def tBreak : TS := fun D σ H => D.bk σ H
def tCont : TS := fun D σ H => D.ct σ H
theorem ps_break : PS X (.Break pos) tBreak := fun _ _ σ H _ I h => wpAny_Break ⟨σ, H, I, h⟩
theorem Inv.quiet {pins : List (Addr × Obj)} {σ : St} {H : Hp} {s : Shared} (I : Inv X pins σ H s) : interactive X.env = false := by simp [interactive, I.ok.kind]
def tDrop (te : TE) : TS := fun D σ H => te σ H fun _ H1 => D.nx σ H1
theorem ps_expr (he : PE X e te) (hs : swapsWith e none pos.line X.env = pure false := by rfl) : PS X (.Expr e pos) (tDrop te) := by
  intro pins s σ H D I h
  exact wpAny_Expr_any (thn (he pins s σ H _ I h) fun v s1 ⟨x, H1, I1, r1, q1⟩ => ⟨σ, H1, I1, q1⟩) I.quiet hs
def tRet (te : TE) : TS := fun D σ H => te σ H D.rt
theorem ps_ret (he : PE X e te) : PS X (.Return (some e) pos) (tRet te) := by
  intro pins s σ H D I h
  exact wpAny_Return_some (thn (he pins s σ H _ I h) fun v s1 ⟨x, H1, I1, r1, q1⟩ => ⟨x, σ, H1, I1, r1, q1⟩)
def tRetN : TS := fun D _ H => D.rt .non H
def tIfS (c : TT) (t u : TS) : TS := fun D σ H => c σ H fun b H1 => if b = true then t D σ H1 else u D σ H1
theorem ps_if {c : Expr} {a b : List Stmt} {tc : TT} (hc : PT X c tc) (ha : PSs X a t) (hb : PSs X b u) : PS X (.If c a b pos) (tIfS tc t u) := by
  intro pins s σ H D I h
  refine wpAny_If (thn (hc pins s σ H _ I h) fun d s1 ⟨H1, I1, q1⟩ => ?_)
  cases d with
  | true => exact ha pins s1 σ H1 D I1 q1
  | false => exact hb pins s1 σ H1 D I1 q1
end
abbrev TG := V → St → Hp → (St → Hp → Prop) → Prop
abbrev TGs := List V → St → Hp → (St → Hp → Prop) → Prop
def PG (X : Cx) (target : Expr) (t : TG) : Prop :=
  ∀ (pins : List (Addr × Obj)) (s : Shared) (σ : St) (H : Hp) (v : V) (u : Value) (Q : St → Hp → Prop), Inv X pins σ H s → RelV v u → t v σ H Q →
    wpAny (model X.prog X.w) X.A (assign target X.env u) (fun _ s' => ∃ σ' H', Inv X pins σ' H' s' ∧ Q σ' H') X.xe s
def PGs (X : Cx) (ts : List Expr) (t : TGs) : Prop :=
  ∀ (pins : List (Addr × Obj)) (s : Shared) (σ : St) (H : Hp) (vs : List V) (us : List Value) (Q : St → Hp → Prop), Inv X pins σ H s → Vals vs us → t vs σ H Q →
    wpAny (model X.prog X.w) X.A (assignInOrder ((assignEach ts X.env).map (·.2)) us) (fun _ s' => ∃ σ' H', Inv X pins σ' H' s' ∧ Q σ' H') X.xe s
abbrev TSet := V → V → V → Hp → (Hp → Prop) → Prop
def PSet (X : Cx) (t : TSet) : Prop :=
  ∀ (pins : List (Addr × Obj)) (s : Shared) (σ : St) (H : Hp) (o i v : V) (ov iv u : Value) (Q : Hp → Prop), Inv X pins σ H s → RelV o ov → RelV i iv → RelV v u → t o i v H Q →
    wpAny (model X.prog X.w) X.A (setItem ov iv u) (fun _ s' => ∃ H', Inv X pins σ H' s' ∧ Q H') X.xe s
abbrev TIp := V → V → Hp → VK → Prop
def PIp (X : Cx) (op : Operator) (t : TIp) : Prop :=
  ∀ (pins : List (Addr × Obj)) (s : Shared) (σ : St) (H : Hp) (x y : V) (v u : Value) (Q : VK), Inv X pins σ H s → RelV x v → RelV y u → t x y H Q →
    wpAny (model X.prog X.w) X.A (inplaceOp op v u) (EP X pins σ Q) X.xe s
section
variable {X : Cx} {pos : Pos}
def gName (i : Nat) : TG := fun v σ H Q => Q (σ.set i (some v)) H
theorem pg_name {i : Nat} {x : Str} (hN : X.N.Nodup) (hi : X.N[i]? = some x) (hx : Loc X.env.scope x) (hf : X.fn x = true ∨ X.env.scope.names.lookup x = some .local := by first | exact .inl rfl | exact .inr rfl | assumption) : PG X (.Name x pos) (gName i) := by
  intro pins s σ H v u Q I r h
  exact wpAny_assign_Name (store_ok I hN hi hx r (fun s' I' => ⟨_, H, I', h⟩) hf)
def gNil : TGs := fun vs σ H Q => vs = [] ∧ Q σ H
def gCons (t : TG) (u : TGs) : TGs := fun vs σ H Q => ∃ v r, vs = v :: r ∧ t v σ H fun σ' H' => u r σ' H' Q
theorem pgs_nil : PGs X [] gNil := by
  intro pins s σ H vs us Q I r h
  obtain ⟨e, h⟩ := h
  subst e
  cases r
  exact assignInOrder_nil ⟨σ, H, I, h⟩
theorem pgs_cons {e : Expr} {es : List Expr} {t : TG} {u : TGs} (h1 : PG X e t) (h2 : PGs X es u)
    (hs : (assignEach (e :: es) X.env).map (·.2) = assign e X.env :: (assignEach es X.env).map (·.2) := by rfl) : PGs X (e :: es) (gCons t u) := by
  intro pins s σ H vs us Q I r h
  obtain ⟨v, vr, e1, h⟩ := h
  subst e1
  cases r with
  | cons r rr =>
    rw [hs]
    refine assignInOrder_cons (thn (h1 pins s σ H _ _ _ I r h) fun _ s1 ⟨σ1, H1, I1, q1⟩ => ?_)
    exact h2 pins s1 σ1 H1 _ _ Q I1 rr q1
def gTup (K : PySem.W.Frag) (n : Nat) (t : TGs) : TG := fun v σ H Q => ∃ a xs, v = .ref a ∧ SqT K H a xs ∧ xs.length = n ∧ t xs σ H Q
theorem pg_tup {es : List Expr} {k : Nat} {t : TGs} {n : Nat} (hc : X.calm = true) (h : PGs X es t)
    (hn : (assignEach es X.env).length = n := by rfl) (hst : (assignEach es X.env).findIdx? (·.1) = none := by rfl) : PG X (.Tuple es k pos) (gTup X.K n t) := by
  intro pins s σ H v u Q I r hw
  obtain ⟨a, xs, e1, hq, hl, hw⟩ := hw
  subst e1
  cases r
  obtain ⟨its, rv, ht, hz⟩ := I.tuple hq
  refine assign_Tuple_tuple (I.ok.hd hc) ht (by simp [hn, ← hl, rv.length]) hst fun h' hx => ?_
  have I1 : Inv X pins σ H { s with heap := h' } := I.kept (t' := s.toks) fun b o e => hx b o (Nat.ne_of_lt (Heap.lt_size e)) e
  exact h pins _ σ H xs _ Q I1 (by simpa using rv) hw
def gSub (to ti : TE) (t : TSet) : TG := fun v σ H Q => to σ H fun o H1 => ti σ H1 fun i H2 => t o i v H2 fun H3 => Q σ H3
theorem pg_sub {o i : Expr} {to ti : TE} {t : TSet} (ho : PE X o to) (hi : PE X i ti) (hs : PSet X t)
    (ha : ∀ v, assign (.Subscript o i pos) X.env v = (do
      let ov ← holding [v] (eval o X.env)
      let iv ← holding [v, ov] (eval i X.env)
      standAt pos
      holding [v, ov, iv] (setItem ov iv v)
      release [v, ov, iv] []) := by intro _; rfl) : PG X (.Subscript o i pos) (gSub to ti t) := by
  intro pins s σ H v u Q I r h
  rw [ha]
  refine wpAny_bind (wpAny_holding (thn (ho pins s σ H _ I h) fun ov s1 ⟨x, H1, I1, r1, q1⟩ => ?_))
  refine wpAny_bind (wpAny_holding (thn (hi pins s1 σ H1 _ I1 q1) fun iv s2 ⟨y, H2, I2, r2, q2⟩ => ?_))
  refine wpAny_bind (wpAny_standAt (wpAny_bind (wpAny_holding (thn (hs pins s2 σ H2 x y v ov iv u _ I2 r1 r2 r q2) fun _ s3 ⟨H3, I3, q3⟩ => ?_))))
  exact wpAny_release ⟨σ, H3, I3, q3⟩
def tAsg (te : TE) (g : TG) : TS := fun D σ H => te σ H fun x H1 => g x σ H1 D.nx
theorem ps_asg {tg e : Expr} {te : TE} {g : TG} (he : PE X e te) (hg : PG X tg g) (hs : swapsWithSole [tg] e pos.line X.env = pure false := by rfl) (hw : swappedStores [tg] e X.env = pure none := by rfl)
    (h1 : (assignEach [tg] X.env).map (·.2) = [assign tg X.env] := by rfl) : PS X (.Assign [tg] e pos) (tAsg te g) := by
  intro pins s σ H D I h
  refine wpAny_Assign_stores (thn (he pins s σ H _ I h) fun v s1 ⟨x, H1, I1, r1, q1⟩ => ?_) hs hw
  rw [h1]
  exact thn (hg pins s1 σ H1 x v _ I1 r1 q1) fun _ s2 q => q
theorem ps_set {i : Nat} {x : Str} {e : Expr} {te : TE} {pos' : Pos} (hN : X.N.Nodup) (hi : X.N[i]? = some x) (hx : Loc X.env.scope x) (he : PE X e te) (hs : swapsWith e (some (.Name x pos')) pos.line X.env = pure false := by rfl) (hf : X.fn x = true ∨ X.env.scope.names.lookup x = some .local := by first | exact .inl rfl | exact .inr rfl | assumption) :
    PS X (.Assign [.Name x pos'] e pos) (tAsg te (gName i)) := by
  intro pins s σ H D I h
  refine wpAny_Assign_Name (thn (he pins s σ H _ I h) fun v s1 ⟨y, H1, I1, r1, q1⟩ => ?_) hs
  exact store_ok I1 hN hi hx r1 (fun s2 I2 => ⟨_, H1, I2, q1⟩) hf
def tAug (i : Nat) (te : TE) (ti : TIp) : TS := fun D σ H => ∃ x, σ[i]? = some (some x) ∧ te σ H fun y H1 => ti x y H1 fun z H2 => D.nx (σ.set i (some z)) H2
theorem ps_aug {i : Nat} {x : Str} {e : Expr} {te : TE} {op : Operator} {ti : TIp} {pos' : Pos} (hN : X.N.Nodup) (hi : X.N[i]? = some x) (hx : Loc X.env.scope x) (he : PE X e te) (ho : PIp X op ti) (hf : X.fn x = true ∨ X.env.scope.names.lookup x = some .local := by first | exact .inl rfl | exact .inr rfl | assumption) :
    PS X (.AugAssign (.Name x pos') op e pos) (tAug i te ti) := by
  intro pins s σ H D I h
  obtain ⟨v, e1, h⟩ := h
  obtain ⟨m, hn, hl⟩ := I.loc
  have vis : Vis X.env.scope x := by rcases hx with k | k; exact .inl k; exact .inr (.inl k)
  obtain ⟨u, r, l⟩ := hl i x v hi e1 vis
  refine wpAny_AugAssign_Name ?_
  have go : wpAny (model X.prog X.w) X.A (eval e X.env) (fun w s₂ => wpAny (model X.prog X.w) X.A (inplaceOp op u w) (fun r s₃ => wpAny (model X.prog X.w) X.A (storeName X.env x r) (fun _ => SP X pins D .next) X.xe s₃) X.xe s₂) X.xe s := by
    refine thn (he pins s σ H _ I h) fun w s1 ⟨y, H1, I1, r1, q1⟩ => ?_
    refine thn (ho pins s1 σ H1 v y u w _ I1 r r1 q1) fun z s2 ⟨zv, H2, I2, r2, q2⟩ => ?_
    exact store_ok I2 hN hi hx r2 (fun s3 I3 => ⟨_, H2, I3, q2⟩) hf
  rcases l with ⟨hk, hm⟩ | ⟨hk, c, hc, hcell⟩
  · exact wpAny_loadName_local I.ok.kind hk hn hm go
  · rcases hk with hk | hk
    · exact wpAny_loadName_cell I.ok.kind hk hc hcell go
    · rcases hx with k | k
      · have : X.env.scope.names.lookup x = some .free := hk
        rw [k] at this; cases this
      · have : X.env.scope.names.lookup x = some .free := hk
        rw [k] at this; cases this
end
section
variable {X : Cx} {pos : Pos}
def tWhile (c : TT) (tb : TS) : TS := fun D σ H => ∃ W : Nat → St → Hp → Prop, (∃ m, W m σ H) ∧ ∀ m σ H, W m σ H →
  c σ H fun b H1 => if b = true then ∃ N : St → Hp → Prop, (∀ σ' H', N σ' H' → ∃ m', m' < m ∧ W m' σ' H') ∧ tb { D with nx := N, ct := N, bk := D.nx } σ H1 else D.nx σ H1
theorem ps_while {c : Expr} {body : List Stmt} {tc : TT} {tb : TS} (hp : PassesOwn (model X.prog X.w) X.A X.env X.xe) (hc : PT X c tc) (hb : PSs X body tb) : PS X (.While c body [] pos) (tWhile tc tb) := by
  intro pins s σ H D I h
  obtain ⟨W, ⟨m0, w0⟩, turn⟩ := h
  refine wpAny_While (codeAny_whileLoop (fun n s' => ∃ σ' H', Inv X pins σ' H' s' ∧ W n σ' H') ?_ m0 ⟨σ, H, I, w0⟩)
  rintro n s1 ⟨σ1, H1, I1, w1⟩
  refine wpAny_passesOwn hp (thn (hc pins s1 σ1 H1 _ I1 (turn n σ1 H1 w1)) fun b s2 ⟨H2, I2, q2⟩ => ?_)
  cases b with
  | true =>
    obtain ⟨N, hN, q2⟩ := q2
    rw [if_pos rfl]
    refine wpAny_passesOwn hp (thn (hb pins s2 σ1 H2 _ I2 q2) fun f s3 q3 => ?_)
    cases f with
    | next =>
      obtain ⟨σ3, H3, I3, n3⟩ := q3
      obtain ⟨m', hm, w3⟩ := hN σ3 H3 n3
      exact ⟨m', hm, σ3, H3, I3, w3⟩
    | cont =>
      obtain ⟨σ3, H3, I3, n3⟩ := q3
      obtain ⟨m', hm, w3⟩ := hN σ3 H3 n3
      exact ⟨m', hm, σ3, H3, I3, w3⟩
    | brk => exact q3
    | ret v => exact q3
  | false =>
    rw [if_neg Bool.false_ne_true]
    exact wpAny_execs_nil ⟨σ1, H2, I2, q2⟩
end
structure It where
  go : Nat → Hp → Prop
  yld : Nat → Hp → V → Hp → Prop
  stop : Nat → Hp → Prop
def FpOk (X : Cx) (pins : List (Addr × Obj)) (H : Hp) (b : Addr) : Prop :=
  H b = none ∧ b ≠ X.env.locals ∧ b ∉ X.fs ∧ (b ∈ X.ex ∨ X.s_0.heap.objs.size ≤ b) ∧ (∀ x c, X.env.cells.lookup x = some c → c ≠ b) ∧ ∀ p ∈ X.pn ++ pins, p.1 ≠ b
theorem Inv.fpOk {X : Cx} {pins : List (Addr × Obj)} {σ : St} {H H' : Hp} {s : Shared} {b : Addr} (I : Inv X pins σ H s) (hb : s.heap.objs.size ≤ b) (hn : H' b = none) : FpOk X pins H' b := by
  refine ⟨hn, Nat.ne_of_gt (Nat.lt_of_lt_of_le I.lt hb), I.nofs hb, .inr (Nat.le_trans I.sz hb), fun x c e z => ?_, fun p hp z => ?_⟩
  · obtain ⟨v, q⟩ := I.cell x c e
    exact absurd (Nat.lt_of_lt_of_le q.lt (by rw [z]; exact hb)) (Nat.lt_irrefl _)
  · exact absurd (Nat.lt_of_lt_of_le (Heap.lt_size (I.pin p hp).1) (by rw [z]; exact hb)) (Nat.lt_irrefl _)
structure Turn (P : Program) (w : World) (K : PySem.W.Frag) (tg : Expr) (J : It) (fp : List Addr) (it : Addr) (tn : Nat → Heap → Prop) : Prop where
  mem : it ∈ fp
  obj : ∀ i h, tn i h → ∀ b ∈ fp, ∃ o, h.get? b = some o ∧ ∀ v, o.data ≠ .cell v
  keep : ∀ i h h', tn i h → (∀ b ∈ fp, ∀ o, h.get? b = some o → h'.get? b = some o) → tn i h'
  item : ∀ (X : Cx), X.prog = P → X.w = w → X.K = K → X.calm = true → ∀ (i : Nat) (pins : List (Addr × Obj)) (s : Shared) (σ : St) (H : Hp) (E : Value → Shared → Prop), Inv X pins σ H s → (∀ b ∈ fp, FpOk X pins H b) → tn i s.heap → J.go i H →
    wpAny (model P w) X.A (pyNext (.ref it)) (fun r s1 => ∃ u, r = some u ∧
      wpAny (model P w) X.A (letOwnedTupleGo tg (.ref it) u) (fun _ s2 => ∃ x H', Inv X pins σ H' s2 ∧ RelV x u ∧ J.yld i H x H' ∧ tn (i + 1) s2.heap ∧ ∀ b ∈ fp, H' b = none) E s1) E s
  done : ∀ (X : Cx), X.prog = P → X.w = w → X.K = K → X.calm = true → ∀ (i : Nat) (pins : List (Addr × Obj)) (s : Shared) (σ : St) (H : Hp) (E : Value → Shared → Prop), Inv X pins σ H s → (∀ b ∈ fp, FpOk X pins H b) → tn i s.heap → J.stop i H →
    wpAny (model P w) X.A (pyNext (.ref it)) (fun r s1 => r = none ∧ Inv X pins σ H s1) E s
  self : ∀ (A : Around) (i : Nat) (s : Shared) (Q : Value → Shared → Prop) (E : Value → Shared → Prop), tn i s.heap → Q (.ref it) s → wpAny (model P w) A (pyIter (.ref it)) Q E s
abbrev TI := St → Hp → (It → Hp → Prop) → Prop
def PIE (X : Cx) (pins : List (Addr × Obj)) (σ : St) (tg : Expr) (R : It → Hp → Prop) (itv : Value) (s2 : Shared) : Prop :=
  ∃ (it : Addr) (fp : List Addr) (tn : Nat → Heap → Prop) (J : It) (H' : Hp), itv = .ref it ∧ Inv X pins σ H' s2 ∧ Turn X.prog X.w X.K tg J fp it tn ∧ tn 0 s2.heap ∧ (∀ b ∈ fp, FpOk X pins H' b) ∧ R J H'
def PI (X : Cx) (tg iter : Expr) (wi : TI) : Prop :=
  ∀ (pins : List (Addr × Obj)) (s : Shared) (σ : St) (H : Hp) (R : It → Hp → Prop), Inv X pins σ H s → wi σ H R →
    wpAny (model X.prog X.w) X.A (eval iter X.env) (fun v s1 => wpAny (model X.prog X.w) X.A (pyIter v) (PIE X pins σ tg R) X.xe s1) X.xe s
theorem go_of {M : Model} {A : Around} {E : Value → Shared → Prop} {s : Shared} {tg : Expr} {it : Addr} {u : Value} {o : Obj} {n : String} {vs : Array Value} {Q : Unit → Shared → Prop} (ho : s.heap.get? it = some o) (hc : o.cls = .type n) (hd : o.data = .fields vs)
    (hn : ["enumerate", "zip", "dict_itemiterator", "dict_reverseitemiterator", "odict_iterator", "itertools.zip_longest", "itertools.pairwise"].contains n = false) (hQ : Q () s) : wpAny M A (letOwnedTupleGo tg (.ref it) u) Q E s := by
  unfold letOwnedTupleGo
  cases tg <;> first
    | exact wpAny_pure hQ
    | (cases u <;> first
        | exact wpAny_pure hQ
        | (refine wpAny_bind (wpAny_load ho ?_)
           rw [hc, hd]
           show wpAny M A (if (["enumerate", "zip", "dict_itemiterator", "dict_reverseitemiterator", "odict_iterator", "itertools.zip_longest", "itertools.pairwise"].contains n && vs[0]? == some (rawInt _)) = true then _ else _) Q E s
           rw [if_neg (by intro h; rw [hn, Bool.false_and] at h; cases h)]
           exact wpAny_pure hQ))
def Itl (K : PySem.W.Frag) (a : Addr) : It :=
  ⟨fun i H => ∃ xs x, SqL K H a xs ∧ xs[i]? = some x, fun i H x H' => H' = H ∧ ∀ xs, SqL K H a xs → xs[i]? = some x, fun i H => ∃ xs, SqL K H a xs ∧ xs.length ≤ i⟩
def Itt (K : PySem.W.Frag) (a : Addr) : It :=
  ⟨fun i H => ∃ xs x, SqT K H a xs ∧ xs[i]? = some x, fun i H x H' => H' = H ∧ ∀ xs, SqT K H a xs → xs[i]? = some x, fun i H => ∃ xs, SqT K H a xs ∧ xs.length ≤ i⟩
def Itr (lo : Int) (n : Nat) : It := ⟨fun i _ => i < n, fun i H x H' => H' = H ∧ x = .int (lo + i), fun i _ => n ≤ i⟩
theorem turn_list {P : Program} {w : World} {K : PySem.W.Frag} {tg : Expr} (a it : Addr) : Turn P w K tg (Itl K a) [it] it (fun i h => h.IsListIter it a i) where
  mem := by simp
  obj := fun i h st b hb => by
    have e : b = it := by simpa using hb
    subst e
    obtain ⟨o, e, c, d⟩ := st
    exact ⟨o, e, fun v z => by rw [d] at z; cases z⟩
  keep := fun i h h' st k => st.at fun o e => k it (by simp) o e
  item := by
    intro X hP hw hK hc i pins s σ H E I hf st hg
    subst hP hw hK
    obtain ⟨xs, x, hq, hx⟩ := hg
    obtain ⟨its, rv, p, hz⟩ := I.list hq
    obtain ⟨u, hu, ru⟩ := rv.get hx
    obtain ⟨f0, f1, f2, f3, f4, f5⟩ := hf it (by simp)
    refine wpAny_pyNext_list_item st p.isList (x := u) (by simpa using hu) fun h' st' sb => ?_
    have I1 : Inv X pins σ H { s with heap := h' } := I.turned (t' := s.toks) (fun b o hb e => (sb.2 b hb).trans e) f0 f1 f3 f4 f5
    obtain ⟨o, e, c, d⟩ := id st'
    exact ⟨u, rfl, go_of (s := { s with heap := h' }) e c d (by decide) ⟨x, H, I1, ru, ⟨rfl, fun ys hy => by rw [I.list_inj hy hq]; exact hx⟩, st', fun b hb => (hf b hb).1⟩⟩
  done := by
    intro X hP hw hK hc i pins s σ H E I hf st hg
    subst hP hw hK
    obtain ⟨xs, hq, hx⟩ := hg
    obtain ⟨its, rv, p, hz⟩ := I.list hq
    obtain ⟨f0, f1, f2, f3, f4, f5⟩ := hf it (by simp)
    have hl := rv.length
    exact wpAny_pyNext_list_end (I.ok.hd hc) st p.isList (by simp; omega) fun h' eb => ⟨rfl, I.turned (t' := s.toks) (fun b o hb e => eb b o hb e) f0 f1 f3 f4 f5⟩
  self := fun _ _ _ _ _ st h => wpAny_pyIter_listiter st h
theorem turn_range {P : Program} {w : World} {K : PySem.W.Frag} {tg : Expr} (it : Addr) (lo : Int) (n : Nat) : Turn P w K tg (Itr lo n) [it] it (fun i h => IsRangeIter h it (lo + (i : Nat) * 1) ((n : Int) - (i : Nat)) 1) where
  mem := by simp
  obj := fun i h st b hb => by
    have e : b = it := by simpa using hb
    subst e
    exact ⟨_, st, fun v z => by
      have z' : Data.fields _ = Data.cell v := z
      cases z'⟩
  keep := fun i h h' st k => k it (by simp) _ st
  item := by
    intro X hP hw hK hc i pins s σ H E I hf st hg
    subst hP hw hK
    obtain ⟨f0, f1, f2, f3, f4, f5⟩ := hf it (by simp)
    have W := Walks.range (prog := X.prog) (w := X.w) (I.ok.hd hc) it lo 1 n
    refine W.item i s _ _ hg st fun v h' tk hv st' kk => ?_
    obtain ⟨t, rfl⟩ := hv
    have I1 : Inv X pins σ H { s with heap := h', toks := tk } := I.turned (fun b o hb e => kk b o (by simpa using hb) e) f0 f1 f3 f4 f5
    refine ⟨_, rfl, go_of (s := { s with heap := h', toks := tk }) (n := "range_iterator") st' rfl rfl (by decide) ⟨.int (lo + i), H, I1, ⟨t, ?_⟩, ⟨rfl, rfl⟩, st', fun b hb => (hf b hb).1⟩⟩
    rw [Int.mul_one]
  done := by
    intro X hP hw hK hc i pins s σ H E I hf st hg
    subst hP hw hK
    obtain ⟨f0, f1, f2, f3, f4, f5⟩ := hf it (by simp)
    exact wpAny_pyNext_range_end (I.ok.hd hc) st (by have : n ≤ i := hg; omega) fun h' eb => ⟨rfl, I.turned (t' := s.toks) (fun b o hb e => eb b o hb e) f0 f1 f3 f4 f5⟩
  self := fun _ _ _ _ _ st h => wpAny_pyIter_rangeiter st h
end L2
namespace L2
open PySem PySem.Spec PyProof.Rows
section
variable {X : Cx} {tg : Expr}
def iList (K : PySem.W.Frag) (tl : TE) : TI := fun σ H R => tl σ H fun x H1 => ∃ a, x = .ref a ∧ (∃ xs, SqL K H1 a xs) ∧ R (Itl K a) H1
def iTup (K : PySem.W.Frag) (tl : TE) : TI := fun σ H R => tl σ H fun x H1 => ∃ a, x = .ref a ∧ (∃ xs, SqT K H1 a xs) ∧ R (Itt K a) H1
theorem pi_list {l : Expr} {tl : TE} (hl : PE X l tl) : PI X tg l (iList X.K tl) := by
  intro pins s σ H R I h
  refine thn (hl pins s σ H _ I h) fun v s1 ⟨x, H1, I1, r1, q1⟩ => ?_
  obtain ⟨a, e, ⟨xs, hq⟩, q⟩ := q1
  subst e
  cases r1
  obtain ⟨its, rv, p, hz⟩ := I1.list hq
  refine wpAny_pyIter_list p.isList ?_
  refine ⟨s1.heap.objs.size, [s1.heap.objs.size], _, _, H1, rfl, I1.kept (t' := s1.toks) fun b o e => Heap.get?_push_of_some _ e, turn_list a _, ⟨_, Heap.get?_push_size _ rfl, rfl, rfl⟩, fun b hb => ?_, q⟩
  have e : b = s1.heap.objs.size := by simpa using hb
  subst e
  exact I1.fpOk (Nat.le_refl _) (I1.hok.fresh (Nat.le_refl _))
theorem range_it {pins : List (Addr × Obj)} {σ : St} {H : Hp} {s : Shared} {R : It → Hp → Prop} {E : Value → Shared → Prop} {lo hi : Int} {t u v : Tok} {tk : Nat} (I : Inv X pins σ H s) (h1 : -(2 ^ 62) ≤ lo) (h2 : lo < 2 ^ 62) (h3 : -(2 ^ 62) ≤ hi) (h4 : hi < 2 ^ 62)
    (q : R (Itr lo (hi - lo).toNat) H) : wpAny (model X.prog X.w) X.A (pyIter (.ref s.heap.objs.size)) (PIE X pins σ tg R) E { s with heap := s.heap.push { cls := .type "range", data := .fields #[.int lo t, .int hi u, .int 1 v] }, toks := tk } := by
  refine wpAny_pyIter_range (IsRange.new ..) (small_one h1 h2 h3 h4) ?_
  have I1 : Inv X pins σ H { s with heap := s.heap.push { cls := .type "range", data := .fields #[.int lo t, .int hi u, .int 1 v] }, toks := tk } := I.kept fun b o e => Heap.get?_push_of_some _ e
  refine ⟨(s.heap.push { cls := .type "range", data := .fields #[.int lo t, .int hi u, .int 1 v] }).objs.size, [(s.heap.push { cls := .type "range", data := .fields #[.int lo t, .int hi u, .int 1 v] }).objs.size], _, _, H, rfl,
    I1.kept (t' := tk) fun b o e => Heap.get?_push_of_some _ e, turn_range _ lo (hi - lo).toNat, ?_, fun b hb => ?_, q⟩
  · have e1 : lo + ((0 : Nat) : Int) * 1 = lo := by simp
    have e2 : (((hi - lo).toNat : Nat) : Int) - ((0 : Nat) : Int) = Builtin.Range.rangeSize lo hi 1 := by rw [rangeSize_one]; split <;> omega
    show IsRangeIter _ _ (lo + ((0 : Nat) : Int) * 1) ((((hi - lo).toNat : Nat) : Int) - ((0 : Nat) : Int)) 1
    rw [e1, e2]
    exact Heap.get?_push_size _ rfl
  · have e : b = (s.heap.push { cls := .type "range", data := .fields #[.int lo t, .int hi u, .int 1 v] }).objs.size := by simpa using hb
    subst e
    exact I1.fpOk (Nat.le_refl _) (I1.hok.fresh (Nat.le_refl _))
def iRng1 (ta : TA) : TI := fun σ H R => ta σ H fun vs H1 => ∃ j : Int, vs = [.int j] ∧ -(2 ^ 62) ≤ j ∧ j < 2 ^ 62 ∧ R (Itr 0 j.toNat) H1
def iRng2 (ta : TA) : TI := fun σ H R => ta σ H fun vs H1 => ∃ i j : Int, vs = [.int i, .int j] ∧ (-(2 ^ 62) ≤ i ∧ i < 2 ^ 62 ∧ -(2 ^ 62) ≤ j ∧ j < 2 ^ 62) ∧ R (Itr i (j - i).toNat) H1
theorem pi_range1 {a : Expr} {ta : TA} {p pos : Pos} (hg : Gl X "range") (hm : X.mg "range" = none) (ha : PA X [a] ta) (hs : starEach [a] X.env = [(false, eval a X.env)] := by rfl) : PI X tg (.Call (.Name "range" p) [a] [] pos) (iRng1 ta) := by
  intro pins s σ H R I h
  refine Call_ (ld_blt I hg hm boot_range (PyProof.Rows.callWith_type1 (thn (ha pos pins s σ H _ I h) fun us s1 ⟨vs, H1, I1, r1, q1⟩ => ?_) hs rfl))
  obtain ⟨j, e, q1, q2, q⟩ := q1
  subst e
  cases r1 with
  | cons r rr =>
    cases rr
    obtain ⟨t, rfl⟩ := r
    exact call_range_1 (range_it I1 (by omega) (by omega) q1 q2 (by simpa using q))
theorem pi_range2 {a b : Expr} {ta : TA} {p pos : Pos} (hg : Gl X "range") (hm : X.mg "range" = none) (ha : PA X [a, b] ta) (hs : starEach [a, b] X.env = [(false, eval a X.env), (false, eval b X.env)] := by rfl) (hs2 : starEach [b] X.env = [(false, eval b X.env)] := by rfl) :
    PI X tg (.Call (.Name "range" p) [a, b] [] pos) (iRng2 ta) := by
  intro pins s σ H R I h
  refine Call_ (ld_blt I hg hm boot_range (PyProof.Rows.callWith_type1 (thn (ha pos pins s σ H _ I h) fun us s1 ⟨vs, H1, I1, r1, q1⟩ => ?_) (by rw [hs, hs2]) (by rw [hs2]; rfl)))
  obtain ⟨i, j, e, ⟨q1, q2, q3, q4⟩, q⟩ := q1
  subst e
  cases r1 with
  | cons r rr =>
    cases rr with
    | cons r' rr =>
      cases rr
      obtain ⟨t, rfl⟩ := r
      obtain ⟨t', rfl⟩ := r'
      exact call_range_2 (range_it I1 q1 q2 q3 q4 q)
def tFor (wi : TI) (g : TG) (tb : TS) : TS := fun D σ H => wi σ H fun J H1 => ∃ W : Nat → Nat → St → Hp → Prop, (∃ m, W 0 m σ H1) ∧ ∀ i m σ H, W i m σ H →
  (J.stop i H ∧ D.nx σ H) ∨ (J.go i H ∧ ∃ N : St → Hp → Prop, (∀ σ' H', N σ' H' → ∃ m', m' < m ∧ W (i + 1) m' σ' H') ∧ ∀ x H', J.yld i H x H' → g x σ H' fun σ2 H2 => tb { D with nx := N, ct := N, bk := D.nx } σ2 H2)
def pinsAt (fp : List Addr) (h : Heap) : List (Addr × Obj) := fp.filterMap fun b => (h.get? b).map fun o => (b, o)
theorem mem_pinsAt {fp : List Addr} {h : Heap} {b : Addr} {o : Obj} (hb : b ∈ fp) (e : h.get? b = some o) : (b, o) ∈ pinsAt fp h := List.mem_filterMap.mpr ⟨b, hb, by rw [e]; rfl⟩
theorem of_pinsAt {fp : List Addr} {h : Heap} {p : Addr × Obj} (hp : p ∈ pinsAt fp h) : p.1 ∈ fp ∧ h.get? p.1 = some p.2 := by
  obtain ⟨b, hb, e⟩ := List.mem_filterMap.mp hp
  cases q : h.get? b with
  | none => rw [q] at e; cases e
  | some o =>
    rw [q] at e
    have e' : (b, o) = p := Option.some.inj e
    subst e'
    exact ⟨hb, q⟩
theorem Inv.pinned {pins : List (Addr × Obj)} {σ : St} {H : Hp} {s : Shared} {fp : List Addr} (I : Inv X pins σ H s) (hf : ∀ b ∈ fp, FpOk X pins H b) (ho : ∀ b ∈ fp, ∃ o, s.heap.get? b = some o ∧ ∀ v, o.data ≠ .cell v) : Inv X (pins ++ pinsAt fp s.heap) σ H s :=
  I.pins_of fun p hp => (List.mem_append.mp hp).elim (fun z => I.pin p (List.mem_append_right _ z)) fun z => by
    obtain ⟨hb, e⟩ := of_pinsAt z
    obtain ⟨f0, f1, f2, _⟩ := hf p.1 hb
    obtain ⟨o, e', d⟩ := ho p.1 hb
    rw [e] at e'; cases e'
    exact ⟨e, f0, f1, f2, d⟩
theorem Inv.unpinned {pins pl : List (Addr × Obj)} {σ : St} {H : Hp} {s : Shared} (I : Inv X (pins ++ pl) σ H s) : Inv X pins σ H s := I.pins_of fun p hp => I.pin p (List.mem_append_right _ (List.mem_append_left _ hp))
theorem ps_for {iter : Expr} {body : List Stmt} {wi : TI} {g : TG} {tb : TS} {pos : Pos} (hp : PassesOwn (model X.prog X.w) X.A X.env X.xe) (hc : X.calm = true) (hi : PI X tg iter wi) (hg : PG X tg g) (hb : PSs X body tb)
    (hs : ∀ x, foldedSetIterable iter X.env x = pure x := by intro _; rfl) : PS X (.For tg iter body [] pos) (tFor wi g tb) := by
  intro pins s σ H D I h
  refine wpAny_For (thn (hi pins s σ H _ I h) fun v s1 h1 => thn h1 fun itv s2 h2 => ?_) hs
  obtain ⟨it, fp, tn, J, H2, e, I2, T, st2, f2, W, ⟨m0, w0⟩, turn⟩ := h2
  subst e
  -- what stays true of the iterator's objects through the loop
  have stat : ∀ {H' : Hp}, (∀ b ∈ fp, H' b = none) → ∀ b ∈ fp, FpOk X pins H' b := fun hn b hb => ⟨hn b hb, (f2 b hb).2⟩
  refine codeAny_forLoop_any (fun n s' => ∃ i σ' H', Inv X pins σ' H' s' ∧ tn i s'.heap ∧ (∀ b ∈ fp, H' b = none) ∧ W i n σ' H') ?_ m0 ⟨0, σ, H2, I2, st2, fun b hb => (f2 b hb).1, w0⟩
  rintro n s3 ⟨i, σ3, H3, I3, st3, fr3, w3⟩
  rcases turn i n σ3 H3 w3 with ⟨stop, qn⟩ | ⟨go, N, hN, step⟩
  · refine wpAny_passesOwn hp (thn (T.done X rfl rfl rfl hc i pins s3 σ3 H3 X.xe I3 (stat fr3) st3 stop) fun r s4 ⟨hr, I4⟩ => ?_)
    subst hr
    exact wpAny_execs_nil ⟨σ3, H3, I4, qn⟩
  · refine wpAny_passesOwn hp (thn (T.item X rfl rfl rfl hc i pins s3 σ3 H3 X.xe I3 (stat fr3) st3 go) fun r s4 ⟨u, hr, h4⟩ => ?_)
    subst hr
    refine wpAny_passesOwn hp (thn h4 fun _ s5 ⟨x, H5, I5, r5, y5, st5, fr5⟩ => ?_)
    have I5' := I5.pinned (stat fr5) (T.obj _ _ st5)
    refine wpAny_passesOwn hp (thn (hg _ s5 σ3 H5 x u _ I5' r5 (step x H5 y5)) fun _ s6 ⟨σ6, H6, I6, q6⟩ => ?_)
    refine wpAny_passesOwn hp (thn (hb _ s6 σ6 H6 _ I6 q6) fun f s7 q7 => ?_)
    have again : ∀ {σ7 : St} {H7 : Hp}, Inv X (pins ++ pinsAt fp s5.heap) σ7 H7 s7 → N σ7 H7 → ∃ m, m < n ∧ ∃ i σ' H', Inv X pins σ' H' s7 ∧ tn i s7.heap ∧ (∀ b ∈ fp, H' b = none) ∧ W i m σ' H' := fun {σ7 H7} I7 n7 => by
      obtain ⟨m', hm, w7⟩ := hN σ7 H7 n7
      refine ⟨m', hm, i + 1, σ7, H7, I7.unpinned, T.keep _ _ _ st5 fun b hb o e => (I7.pin (b, o) (List.mem_append_right _ (List.mem_append_right _ (mem_pinsAt hb e)))).1, fun b hb => ?_, w7⟩
      obtain ⟨o, e, d⟩ := T.obj _ _ st5 b hb
      exact (I7.pin (b, o) (List.mem_append_right _ (List.mem_append_right _ (mem_pinsAt hb e)))).2.1
    cases f with
    | next => obtain ⟨σ7, H7, I7, n7⟩ := q7; exact again I7 n7
    | cont => obtain ⟨σ7, H7, I7, n7⟩ := q7; exact again I7 n7
    | brk => obtain ⟨σ7, H7, I7, q7⟩ := q7; exact ⟨σ7, H7, I7.unpinned, q7⟩
    | ret v => obtain ⟨x7, σ7, H7, I7, r7, q7⟩ := q7; exact ⟨x7, σ7, H7, I7.unpinned, r7, q7⟩
end
theorem for_list {K : PySem.W.Frag} {a : Addr} {xs : List V} {g : TG} {tb : TS} {D : Ends} {σ : St} {H : Hp} (Pv : Nat → St → Hp → Prop) (h0 : Pv 0 σ H) (hl : ∀ i σ H, i ≤ xs.length → Pv i σ H → SqL K H a xs)
    (hs : ∀ i x σ H, xs[i]? = some x → Pv i σ H → g x σ H fun σ2 H2 => tb { D with nx := Pv (i + 1), ct := Pv (i + 1), bk := D.nx } σ2 H2) (hd : ∀ σ H, Pv xs.length σ H → D.nx σ H) :
    ∃ W : Nat → Nat → St → Hp → Prop, (∃ m, W 0 m σ H) ∧ ∀ i m σ H, W i m σ H →
      ((Itl K a).stop i H ∧ D.nx σ H) ∨ ((Itl K a).go i H ∧ ∃ N : St → Hp → Prop, (∀ σ' H', N σ' H' → ∃ m', m' < m ∧ W (i + 1) m' σ' H') ∧ ∀ x H', (Itl K a).yld i H x H' → g x σ H' fun σ2 H2 => tb { D with nx := N, ct := N, bk := D.nx } σ2 H2) := by
  refine ⟨fun i m σ H => m = xs.length - i ∧ i ≤ xs.length ∧ Pv i σ H, ⟨xs.length, by simp, Nat.zero_le _, h0⟩, ?_⟩
  rintro i m σ H ⟨rfl, hi, p⟩
  have q := hl i σ H hi p
  by_cases hlt : i < xs.length
  · refine .inr ⟨⟨xs, xs[i], q, by simp [hlt]⟩, Pv (i + 1), fun σ' H' p' => ⟨xs.length - (i + 1), by omega, rfl, hlt, p'⟩, fun x H' y => ?_⟩
    obtain ⟨e, y⟩ := y
    subst e
    exact hs i x σ _ (y xs q) p
  · have e : i = xs.length := by omega
    subst e
    exact .inl ⟨⟨xs, q, Nat.le_refl _⟩, hd σ H p⟩
theorem for_tup {K : PySem.W.Frag} {a : Addr} {xs : List V} {g : TG} {tb : TS} {D : Ends} {σ : St} {H : Hp} (Pv : Nat → St → Hp → Prop) (h0 : Pv 0 σ H) (hl : ∀ i σ H, i ≤ xs.length → Pv i σ H → SqT K H a xs)
    (hs : ∀ i x σ H, xs[i]? = some x → Pv i σ H → g x σ H fun σ2 H2 => tb { D with nx := Pv (i + 1), ct := Pv (i + 1), bk := D.nx } σ2 H2) (hd : ∀ σ H, Pv xs.length σ H → D.nx σ H) :
    ∃ W : Nat → Nat → St → Hp → Prop, (∃ m, W 0 m σ H) ∧ ∀ i m σ H, W i m σ H →
      ((Itt K a).stop i H ∧ D.nx σ H) ∨ ((Itt K a).go i H ∧ ∃ N : St → Hp → Prop, (∀ σ' H', N σ' H' → ∃ m', m' < m ∧ W (i + 1) m' σ' H') ∧ ∀ x H', (Itt K a).yld i H x H' → g x σ H' fun σ2 H2 => tb { D with nx := N, ct := N, bk := D.nx } σ2 H2) := by
  refine ⟨fun i m σ H => m = xs.length - i ∧ i ≤ xs.length ∧ Pv i σ H, ⟨xs.length, by simp, Nat.zero_le _, h0⟩, ?_⟩
  rintro i m σ H ⟨rfl, hi, p⟩
  have q := hl i σ H hi p
  by_cases hlt : i < xs.length
  · refine .inr ⟨⟨xs, xs[i], q, by simp [hlt]⟩, Pv (i + 1), fun σ' H' p' => ⟨xs.length - (i + 1), by omega, rfl, hlt, p'⟩, fun x H' y => ?_⟩
    obtain ⟨e, y⟩ := y
    subst e
    exact hs i x σ _ (y xs q) p
  · have e : i = xs.length := by omega
    subst e
    exact .inl ⟨⟨xs, q, Nat.le_refl _⟩, hd σ H p⟩
theorem for_range {lo : Int} {n : Nat} {g : TG} {tb : TS} {D : Ends} {σ : St} {H : Hp} (Pv : Nat → St → Hp → Prop) (h0 : Pv 0 σ H)
    (hs : ∀ i σ H, i < n → Pv i σ H → g (.int (lo + i)) σ H fun σ2 H2 => tb { D with nx := Pv (i + 1), ct := Pv (i + 1), bk := D.nx } σ2 H2) (hd : ∀ σ H, Pv n σ H → D.nx σ H) :
    ∃ W : Nat → Nat → St → Hp → Prop, (∃ m, W 0 m σ H) ∧ ∀ i m σ H, W i m σ H →
      ((Itr lo n).stop i H ∧ D.nx σ H) ∨ ((Itr lo n).go i H ∧ ∃ N : St → Hp → Prop, (∀ σ' H', N σ' H' → ∃ m', m' < m ∧ W (i + 1) m' σ' H') ∧ ∀ x H', (Itr lo n).yld i H x H' → g x σ H' fun σ2 H2 => tb { D with nx := N, ct := N, bk := D.nx } σ2 H2) := by
  refine ⟨fun i m σ H => m = n - i ∧ i ≤ n ∧ Pv i σ H, ⟨n, by simp, Nat.zero_le _, h0⟩, ?_⟩
  rintro i m σ H ⟨rfl, hi, p⟩
  by_cases hlt : i < n
  · refine .inr ⟨hlt, Pv (i + 1), fun σ' H' p' => ⟨n - (i + 1), by omega, rfl, hlt, p'⟩, fun x H' y => ?_⟩
    obtain ⟨e, y⟩ := y
    subst e y
    exact hs i σ _ hlt p
  · have e : i = n := by omega
    subst e
    exact .inl ⟨Nat.le_refl _, hd σ H p⟩
end L2
namespace L2
open PySem PySem.Spec PyProof.Rows
abbrev R2 := V → V → Hp → VK → Prop
def OpR (X : Cx) (f : Value → Value → Sem Value) (r : R2) : Prop :=
  ∀ (pins : List (Addr × Obj)) (s : Shared) (σ : St) (H : Hp) (x y : V) (v u : Value) (Q : VK), Inv X pins σ H s → RelV x v → RelV y u → r x y H Q →
    wpAny (model X.prog X.w) X.A (f v u) (EP X pins σ Q) X.xe s
def UnR (X : Cx) (f : Value → Sem Value) (r : V → Hp → VK → Prop) : Prop :=
  ∀ (pins : List (Addr × Obj)) (s : Shared) (σ : St) (H : Hp) (x : V) (v : Value) (Q : VK), Inv X pins σ H s → RelV x v → r x H Q →
    wpAny (model X.prog X.w) X.A (f v) (EP X pins σ Q) X.xe s
def CallR (X : Cx) (f : Value) (r : List V → Hp → VK → Prop) : Prop :=
  ∀ (pins : List (Addr × Obj)) (s : Shared) (σ : St) (H : Hp) (xs : List V) (us : List Value) (Q : VK), Inv X pins σ H s → Vals xs us → r xs H Q →
    wpAny (model X.prog X.w) X.A (call f us) (EP X pins σ Q) X.xe s
def TruR (X : Cx) (r : V → Hp → (Bool → Hp → Prop) → Prop) : Prop :=
  ∀ (pins : List (Addr × Obj)) (s : Shared) (σ : St) (H : Hp) (x : V) (v : Value) (Q : Bool → Hp → Prop), Inv X pins σ H s → RelV x v → r x H Q →
    wpAny (model X.prog X.w) X.A (truthy v) (TP X pins σ Q) X.xe s
def tOp (r : R2) (ta tb : TE) : TE := fun σ H Q => ta σ H fun x H1 => tb σ H1 fun y H2 => r x y H2 Q
def tUn (r : V → Hp → VK → Prop) (ta : TE) : TE := fun σ H Q => ta σ H fun x H1 => r x H1 Q
def rI (C : Int → Int → Prop) (g : Int → Int → V) : R2 := fun x y H Q => ∃ i j, x = .int i ∧ y = .int j ∧ C i j ∧ Q (g i j) H
def rI0 (g : Int → Int → V) : R2 := fun x y H Q => ∃ i j, x = .int i ∧ y = .int j ∧ Q (g i j) H
def rU (g : Int → V) : V → Hp → VK → Prop := fun x H Q => ∃ i, x = .int i ∧ Q (g i) H
section
variable {X : Cx} {a b c : Expr} {ta tb tc : TE} {pos : Pos}
theorem binT (ha : PE X a ta) (hb : PE X b tb) {pins : List (Addr × Obj)} {s : Shared} {σ : St} {H : Hp} {R : V → V → Hp → Prop} (I : Inv X pins σ H s)
    (h : ta σ H fun x H1 => tb σ H1 fun y H2 => R x y H2) {Q : Value → Shared → Prop} {f : Value → Value → Sem Value}
    (hf : ∀ v u s2 x y H2, Inv X pins σ H2 s2 → RelV x v → RelV y u → R x y H2 → wpAny (model X.prog X.w) X.A (f v u) Q X.xe s2) :
    wpAny (model X.prog X.w) X.A (eval a X.env) (fun v s₁ => wpAny (model X.prog X.w) X.A (eval b X.env) (fun u s₂ => wpAny (model X.prog X.w) X.A (f v u) Q X.xe s₂) X.xe s₁) X.xe s := by
  refine thn (ha pins s σ H _ I h) fun v s1 ⟨x, H1, I1, r1, q1⟩ => ?_
  refine thn (hb pins s1 σ H1 _ I1 q1) fun u s2 ⟨y, H2, I2, r2, q2⟩ => ?_
  exact hf v u s2 x y H2 I2 r1 r2 q2
theorem pe_op {op : Operator} {r : R2} (ho : OpR X (binaryOp op) r) (ha : PE X a ta) (hb : PE X b tb) : PE X (.BinOp a op b pos) (tOp r ta tb) := by
  intro pins s σ H Q I h
  exact wpAny_BinOp (binT ha hb I h fun v u s2 x y H2 I2 rx ry q => ho pins s2 σ H2 x y v u Q I2 rx ry q)
theorem pe_un {op : UnaryOp} {r : V → Hp → VK → Prop} (ho : UnR X (unaryOp op) r) (ha : PE X a ta) : PE X (.UnaryOp op a pos) (tUn r ta) := by
  intro pins s σ H Q I h
  exact UnaryOp_ (thn (ha pins s σ H _ I h) fun v s1 ⟨x, H1, I1, r1, q1⟩ => ho pins s1 σ H1 x v Q I1 r1 q1)
theorem opI {f : Value → Value → Sem Value} {C : Int → Int → Prop} {g : Int → Int → Int}
    (rule : ∀ (i j : Int) (t u : Tok) (s : Shared) (Q : Value → Shared → Prop) (E : Value → Shared → Prop), C i j → Q (.int (g i j) s.toks) { s with toks := s.toks + 1 } → wpAny (model X.prog X.w) X.A (f (.int i t) (.int j u)) Q E s) :
    OpR X f (rI C fun i j => .int (g i j)) := by
  intro pins s σ H x y v u Q I rx ry h
  obtain ⟨i, j, rfl, rfl, hc, q⟩ := h
  obtain ⟨t, rfl⟩ := rx
  obtain ⟨t', rfl⟩ := ry
  exact rule i j t t' s _ _ hc ⟨.int (g i j), H, I.tok _, ⟨_, rfl⟩, q⟩
theorem opI0 {f : Value → Value → Sem Value} {g : Int → Int → Int}
    (rule : ∀ (i j : Int) (t u : Tok) (s : Shared) (Q : Value → Shared → Prop) (E : Value → Shared → Prop), Q (.int (g i j) s.toks) { s with toks := s.toks + 1 } → wpAny (model X.prog X.w) X.A (f (.int i t) (.int j u)) Q E s) :
    OpR X f (rI0 fun i j => .int (g i j)) := by
  intro pins s σ H x y v u Q I rx ry h
  obtain ⟨i, j, rfl, rfl, q⟩ := h
  obtain ⟨t, rfl⟩ := rx
  obtain ⟨t', rfl⟩ := ry
  exact rule i j t t' s _ _ ⟨.int (g i j), H, I.tok _, ⟨_, rfl⟩, q⟩
theorem opB0 {f : Value → Value → Sem Value} {g : Int → Int → Bool}
    (rule : ∀ (i j : Int) (t u : Tok) (s : Shared) (Q : Value → Shared → Prop) (E : Value → Shared → Prop), Q (.bool (g i j)) s → wpAny (model X.prog X.w) X.A (f (.int i t) (.int j u)) Q E s) :
    OpR X f (rI0 fun i j => .bl (g i j)) := by
  intro pins s σ H x y v u Q I rx ry h
  obtain ⟨i, j, rfl, rfl, q⟩ := h
  obtain ⟨t, rfl⟩ := rx
  obtain ⟨t', rfl⟩ := ry
  exact rule i j t t' s _ _ ⟨.bl (g i j), H, I, rfl, q⟩
def CMul (i j : Int) : Prop := (-(2 ^ 64) < i ∧ i < 2 ^ 64) ∨ (-(2 ^ 64) < j ∧ j < 2 ^ 64)
theorem CMul.ok {i j : Int} (h : CMul i j) : IntMulOk i j := by
  rcases h with ⟨h1, h2⟩ | ⟨h1, h2⟩
  · exact .of_left (intBits_le_64 h1 h2)
  · exact .of_right (intBits_le_64 h1 h2)
theorem op_add : OpR X (binaryOp .Add) (rI0 fun i j => .int (i + j)) := opI0 fun _ _ _ _ _ _ _ q => add_int q
theorem op_sub : OpR X (binaryOp .Sub) (rI0 fun i j => .int (i - j)) := opI0 fun _ _ _ _ _ _ _ q => sub_int q
theorem op_mul : OpR X (binaryOp .Mult) (rI CMul fun i j => .int (i * j)) := opI fun _ _ _ _ _ _ _ hc q => mul_int q hc.ok
theorem op_mod : OpR X (binaryOp .Mod) (rI (fun _ j => 0 < j) fun i j => .int (i % j)) := opI fun i j _ _ _ _ _ hc q => by
  have h1 : (0 : Int) < j := hc
  exact mod_int' (by omega) (by rw [Int.fmod_eq_emod_of_nonneg i (by omega)]; exact q)
theorem iop_add : OpR X (inplaceOp .Add) (rI0 fun i j => .int (i + j)) := opI0 fun _ _ _ _ _ _ _ q => iadd_int q
theorem unI {f : Value → Sem Value} {g : Int → Int}
    (rule : ∀ (i : Int) (t : Tok) (s : Shared) (Q : Value → Shared → Prop) (E : Value → Shared → Prop), Q (.int (g i) s.toks) { s with toks := s.toks + 1 } → wpAny (model X.prog X.w) X.A (f (.int i t)) Q E s) :
    UnR X f (rU fun i => .int (g i)) := by
  intro pins s σ H x v Q I rx h
  obtain ⟨i, rfl, q⟩ := h
  obtain ⟨t, rfl⟩ := rx
  exact rule i t s _ _ ⟨.int (g i), H, I.tok _, ⟨_, rfl⟩, q⟩
theorem un_neg : UnR X (unaryOp .USub) (rU fun i => .int (-i)) := unI fun _ _ _ _ _ q => neg_int q
end
def scal : V → V → Bool
  | .non, .non => true | .non, .int _ => true | .int _, .non => true | .non, .bl _ => true | .bl _, .non => true | .non, .str _ => true | .str _, .non => true
  | .int _, .int _ => true | .bl _, .bl _ => true | .str _, .str _ => true | .byt _, .byt _ => true
  | .int _, .str _ => true | .str _, .int _ => true | .bl _, .str _ => true | .str _, .bl _ => true
  | _, _ => false
def rEq : R2 := fun x y H Q => scal x y = true ∧ Q (.bl (decide (x = y))) H
def rNe : R2 := fun x y H Q => scal x y = true ∧ Q (.bl (!decide (x = y))) H
theorem dec_int {i j : Int} : decide (V.int i = V.int j) = (i == j) := by
  rw [Bool.eq_iff_iff]
  simp
theorem dec_bl {i j : Bool} : decide (V.bl i = V.bl j) = (i == j) := by
  rw [Bool.eq_iff_iff]
  simp
theorem dec_str {i j : Str} : decide (V.str i = V.str j) = (i == j) := by
  rw [Bool.eq_iff_iff]
  simp
theorem dec_byt {i j : Array UInt8} : decide (V.byt i = V.byt j) = (i.toList == j.toList) := by
  rw [Bool.eq_iff_iff]
  cases i
  cases j
  simp
section
variable {X : Cx} {a b c : Expr} {ta tb tc : TE} {pos : Pos}
theorem fin_bl {pins : List (Addr × Obj)} {σ : St} {H : Hp} {s : Shared} {Q : VK} {k k' : Bool} (I : Inv X pins σ H s) (q : Q (.bl k) H) (e : k = k') : EP X pins σ Q (.bool k') s := by
  subst e
  exact ⟨.bl k, H, I, rfl, q⟩
theorem op_eq : OpR X (compareOp .Eq) rEq := by
  intro pins s σ H x y v u Q I rx ry h
  obtain ⟨hs, q⟩ := h
  cases x with
  | non =>
    cases rx
    cases y with
    | non => cases ry; exact PySem.EqNone.eq_none_none (fin_bl I q (by simp))
    | bl j => cases ry; exact PySem.EqNone.eq_none_bool (fin_bl I q (by simp))
    | int j => obtain ⟨t', rfl⟩ := ry; exact PySem.EqNone.eq_none_int (fin_bl I q (by simp))
    | str j => obtain ⟨t', rfl⟩ := ry; exact PySem.EqNone.eq_none_str (fin_bl I q (by simp))
    | _ => exact absurd (show false = true from hs) Bool.false_ne_true
  | bl i =>
    cases rx
    cases y with
    | non => cases ry; exact PySem.EqNone.eq_bool_none (fin_bl I q (by simp))
    | bl j => cases ry; exact eq_bool (fin_bl I q dec_bl)
    | str j => obtain ⟨t', rfl⟩ := ry; exact PySem.EqMixed.eq_bool_str (fin_bl I q (by simp))
    | _ => exact absurd (show false = true from hs) Bool.false_ne_true
  | int i =>
    obtain ⟨t, rfl⟩ := rx
    cases y with
    | non => cases ry; exact PySem.EqNone.eq_int_none (fin_bl I q (by simp))
    | int j => obtain ⟨t', rfl⟩ := ry; exact eq_int (fin_bl I q dec_int)
    | str j => obtain ⟨t', rfl⟩ := ry; exact PySem.EqMixed.eq_int_str (fin_bl I q (by simp))
    | _ => exact absurd (show false = true from hs) Bool.false_ne_true
  | str i =>
    obtain ⟨t, rfl⟩ := rx
    cases y with
    | non => cases ry; exact PySem.EqNone.eq_str_none (fin_bl I q (by simp))
    | bl j => cases ry; exact PySem.EqMixed.eq_str_bool (fin_bl I q (by simp))
    | int j => obtain ⟨t', rfl⟩ := ry; exact PySem.EqMixed.eq_str_int (fin_bl I q (by simp))
    | str j => obtain ⟨t', rfl⟩ := ry; exact eq_str (fin_bl I q dec_str)
    | _ => exact absurd (show false = true from hs) Bool.false_ne_true
  | byt i =>
    obtain ⟨t, rfl⟩ := rx
    cases y with
    | byt j => obtain ⟨t', rfl⟩ := ry; exact PySem.W.eq_bytes (fin_bl I q dec_byt)
    | _ => exact absurd (show false = true from hs) Bool.false_ne_true
  | _ => cases y <;> exact absurd (show false = true from hs) Bool.false_ne_true
theorem op_ne : OpR X (compareOp .NotEq) rNe := by
  intro pins s σ H x y v u Q I rx ry h
  obtain ⟨hs, q⟩ := h
  cases x with
  | non =>
    cases rx
    cases y with
    | non => cases ry; exact PySem.EqNone.ne_none_none (fin_bl I q (by simp))
    | bl j => cases ry; exact PySem.EqNone.ne_none_bool (fin_bl I q (by simp))
    | int j => obtain ⟨t', rfl⟩ := ry; exact PySem.EqNone.ne_none_int (fin_bl I q (by simp))
    | str j => obtain ⟨t', rfl⟩ := ry; exact PySem.EqNone.ne_none_str (fin_bl I q (by simp))
    | _ => exact absurd (show false = true from hs) Bool.false_ne_true
  | bl i =>
    cases rx
    cases y with
    | non => cases ry; exact PySem.EqNone.ne_bool_none (fin_bl I q (by simp))
    | bl j => cases ry; exact ne_bool (fin_bl I q (congrArg not dec_bl))
    | str j => obtain ⟨t', rfl⟩ := ry; exact PySem.EqMixed.ne_bool_str (fin_bl I q (by simp))
    | _ => exact absurd (show false = true from hs) Bool.false_ne_true
  | int i =>
    obtain ⟨t, rfl⟩ := rx
    cases y with
    | non => cases ry; exact PySem.EqNone.ne_int_none (fin_bl I q (by simp))
    | int j => obtain ⟨t', rfl⟩ := ry; exact ne_int (fin_bl I q (congrArg not dec_int))
    | str j => obtain ⟨t', rfl⟩ := ry; exact PySem.EqMixed.ne_int_str (fin_bl I q (by simp))
    | _ => exact absurd (show false = true from hs) Bool.false_ne_true
  | str i =>
    obtain ⟨t, rfl⟩ := rx
    cases y with
    | non => cases ry; exact PySem.EqNone.ne_str_none (fin_bl I q (by simp))
    | bl j => cases ry; exact PySem.EqMixed.ne_str_bool (fin_bl I q (by simp))
    | int j => obtain ⟨t', rfl⟩ := ry; exact PySem.EqMixed.ne_str_int (fin_bl I q (by simp))
    | str j => obtain ⟨t', rfl⟩ := ry; exact ne_str (fin_bl I q (congrArg not dec_str))
    | _ => exact absurd (show false = true from hs) Bool.false_ne_true
  | byt i =>
    obtain ⟨t, rfl⟩ := rx
    cases y with
    | byt j => obtain ⟨t', rfl⟩ := ry; exact PySem.W.ne_bytes (fin_bl I q (congrArg not dec_byt))
    | _ => exact absurd (show false = true from hs) Bool.false_ne_true
  | _ => cases y <;> exact absurd (show false = true from hs) Bool.false_ne_true
theorem op_lt : OpR X (compareOp .Lt) (rI0 fun i j => .bl (decide (i < j))) := opB0 fun _ _ _ _ _ _ _ q => lt_int q
theorem op_le : OpR X (compareOp .LtE) (rI0 fun i j => .bl (decide (i ≤ j))) := opB0 fun _ _ _ _ _ _ _ q => le_int q
theorem op_gt : OpR X (compareOp .Gt) (rI0 fun i j => .bl (decide (j < i))) := opB0 fun _ _ _ _ _ _ _ q => gt_int q
theorem op_ge : OpR X (compareOp .GtE) (rI0 fun i j => .bl (decide (j ≤ i))) := opB0 fun _ _ _ _ _ _ _ q => ge_int q
theorem op_notN : OpR X (compareOp .IsNot) (fun x y H Q => y = .non ∧ Q (.bl (!decide (x = .non))) H) := by
  intro pins s σ H x y v u Q I rx ry h
  obtain ⟨rfl, q⟩ := h
  cases ry
  refine isnot_none_gen (fin_bl I q ?_)
  cases x <;> first
    | (cases rx; rfl)
    | (obtain ⟨t, rfl⟩ := rx; rfl)
theorem OpR.or {f : Value → Value → Sem Value} {r r' : R2} (h : OpR X f r) (h' : OpR X f r') : OpR X f (fun x y H Q => r x y H Q ∨ r' x y H Q) := by
  intro pins s σ H x y v u Q I rx ry q
  rcases q with q | q
  · exact h pins s σ H x y v u Q I rx ry q
  · exact h' pins s σ H x y v u Q I rx ry q
theorem nomark (b : Expr) {op : CmpOp} (h : op ≠ .In := by decide) (h2 : op ≠ .NotIn := by decide) : behindInMarks op b = false := by
  have e1 : (op == CmpOp.In) = false := by cases op <;> first | rfl | exact absurd rfl h
  have e2 : (op == CmpOp.NotIn) = false := by cases op <;> first | rfl | exact absurd rfl h2
  cases b <;> simp [behindInMarks, e1, e2]
theorem pe_cmpR {op : CmpOp} {r : R2} (ho : OpR X (compareOp op) r) (ha : PE X a ta) (hb : PE X b tb) (hm : behindInMarks op b = false) : PE X (.Compare a [op] [b] pos) (tOp r ta tb) := by
  intro pins s σ H Q I h
  exact wpAny_Compare1 (binT ha hb I h fun v u s2 x y H2 I2 rx ry q => ho pins s2 σ H2 x y v u Q I2 rx ry q) hm
def tTest (t : TE) : TT := fun σ H Q => t σ H fun x H' => ∃ k, x = .bl k ∧ Q k H'
theorem pt_cmpR {op : CmpOp} {r : R2} (ho : OpR X (compareOp op) r) (ha : PE X a ta) (hb : PE X b tb) (hm : behindInMarks op b = false) : PT X (.Compare a [op] [b] pos) (tTest (tOp r ta tb)) := by
  intro pins s σ H Q I h
  refine wpAny_isTrue_Compare1 (thn (ha pins s σ H _ I h) fun v s1 ⟨x, H1, I1, r1, q1⟩ => thn (hb pins s1 σ H1 _ I1 q1) fun u s2 ⟨y, H2, I2, r2, q2⟩ =>
    thn (ho pins s2 σ H2 x y v u _ I2 r1 r2 q2) fun c s3 ⟨z, H3, I3, r3, k, e, q3⟩ => ?_) hm
  subst e
  cases r3
  exact wpAny_truthy_bool ⟨H3, I3, q3⟩
def tChain (r r' : R2) (ta tb tc : TE) : TE := fun σ H Q => ta σ H fun x H1 => tb σ H1 fun y H2 => r x y H2 fun z H3 => ∃ k, z = .bl k ∧
  (if k = true then tc σ H3 fun w' H4 => r' y w' H4 Q else Q (.bl false) H3)
theorem pt_chain {op op' : CmpOp} {r r' : R2} (ho : OpR X (compareOp op) r) (ho' : OpR X (compareOp op') r') (ha : PE X a ta) (hb : PE X b tb) (hc : PE X c tc)
    (hm : lastMarks [op, op'] [b, c] = false := by with_unfolding_all rfl) : PT X (.Compare a [op, op'] [b, c] pos) (tTest (tChain r r' ta tb tc)) := by
  intro pins s σ H Q I h
  refine isTrue_chain (thn (ha pins s σ H _ I h) fun v s1 ⟨x, H1, I1, r1, q1⟩ => test_link (thn (hb pins s1 σ H1 _ I1 q1) fun u s2 ⟨y, H2, I2, r2, q2⟩ =>
    thn (ho pins s2 σ H2 x y v u _ I2 r1 r2 q2) fun d s3 ⟨z, H3, I3, r3, k, e, q3⟩ => ?_)) hm
  subst e
  cases r3
  refine wpAny_truthy_bool ?_
  cases k with
  | false =>
    obtain ⟨k', e', q'⟩ := q3
    cases e'
    exact ite_ff ⟨H3, I3, q'⟩
  | true =>
    refine ite_tt (test_last (thn (hc pins s3 σ H3 _ I3 q3) fun w' s4 ⟨z', H4, I4, r4, q4⟩ => thn (ho' pins s4 σ H4 y z' u w' _ I4 r2 r4 q4) fun d' s5 ⟨z2, H5, I5, r5, k2, e2, q5⟩ => ?_))
    subst e2
    cases r5
    exact wpAny_truthy_bool ⟨H5, I5, q5⟩
def TruV (K : PySem.W.Frag) (x : V) (H : Hp) (k : Bool) : Prop :=
  match x with
  | .non => k = false
  | .bl b => k = b
  | .int i => k = (i != 0)
  | .str y => y.length ≤ sizeLine ∧ k = ((y.length : Int) != 0)
  | .byt y => y.size ≤ sizeLine ∧ k = ((y.size : Int) != 0)
  | .ref p => (∃ xs, SqL K H p xs ∧ k = !xs.isEmpty) ∨ (∃ xs, SqT K H p xs ∧ k = !xs.isEmpty) ∨ ∃ kvs, H p = some (.dK kvs) ∧ k = !kvs.isEmpty
  | _ => False
theorem isEmpty_kv {κ : Type} {kvs : List (κ × V)} {vs : List (κ × Value)} (r : KV kvs vs) : (!vs.isEmpty) = !kvs.isEmpty := by
  cases r <;> rfl
theorem isEmpty_of {xs : List V} {its : List Value} (r : Vals xs its) : (!its.toArray.isEmpty) = !xs.isEmpty := by
  cases r <;> simp
theorem line63 : (sizeLine : Nat) < 2 ^ 63 := by rw [sizeLine_eq]; decide
theorem tru_ok : TruR X (fun x H Q => ∃ k, TruV X.K x H k ∧ Q k H) := by
  intro pins s σ H x v Q I rx h
  obtain ⟨k, e, q⟩ := h
  have hl := line63
  have hs : sizeLine = 16777216 := sizeLine_eq
  cases x with
  | non =>
    cases rx
    have e' : k = false := e
    subst e'
    exact truthy_none ⟨H, I, q⟩
  | bl b =>
    cases rx
    have e' : k = b := e
    subst e'
    exact wpAny_truthy_bool ⟨H, I, q⟩
  | int i =>
    obtain ⟨t, rfl⟩ := rx
    have e' : k = (i != 0) := e
    subst e'
    exact PySem.P.truthy_int ⟨H, I, q⟩
  | str y =>
    obtain ⟨t, rfl⟩ := rx
    obtain ⟨hy, e'⟩ : y.length ≤ sizeLine ∧ k = ((y.length : Int) != 0) := e
    subst e'
    exact PySem.P.truthy_str (by omega) ⟨H, I.tok _, q⟩
  | byt y =>
    obtain ⟨t, rfl⟩ := rx
    obtain ⟨hy, e'⟩ : y.size ≤ sizeLine ∧ k = ((y.size : Int) != 0) := e
    subst e'
    exact PySem.W.truthy_bytes (by omega) ⟨H, I.tok _, q⟩
  | ref p =>
    cases rx
    have e' : (∃ xs, SqL X.K H p xs ∧ k = !xs.isEmpty) ∨ (∃ xs, SqT X.K H p xs ∧ k = !xs.isEmpty) ∨ ∃ kvs, H p = some (.dK kvs) ∧ k = !kvs.isEmpty := e
    rcases e' with ⟨xs, hx, e'⟩ | ⟨xs, hx, e'⟩ | ⟨kvs, hx, e'⟩
    · subst e'
      obtain ⟨its, r, pl, hz⟩ := I.list hx
      have hlen := r.length
      exact wpAny_truthy_list pl.isList (by simp only [List.size_toArray]; omega) ⟨H, I.tok _, by rw [isEmpty_of r]; exact q⟩
    · subst e'
      obtain ⟨its, r, pl, hz⟩ := I.tuple hx
      have hlen := r.length
      exact truthy_tuple pl (by simp only [List.size_toArray]; omega) ⟨H, I.tok _, by rw [isEmpty_of r]; exact q⟩
    · subst e'
      obtain ⟨hz, hS, vs, r, m⟩ : kvs.length ≤ sizeLine ∧ (p == sysModules) = false ∧ ∃ vs, KV kvs vs ∧ s.heap.DictOf (mixKind X.prog X.w) p vs := I.hok p _ hx
      have hlen : kvs.length = vs.length := Paired.length r
      exact wpAny_truthy_dict hS m (by omega) ⟨H, I.tok _, by rw [isEmpty_kv r]; exact q⟩
  | _ => exact (show False from e).elim
theorem pt_truth (ha : PE X a ta) (he : ∀ whole, isTrue a X.env whole = (do let v ← whole; standAt a.pos; holding [v] (truthy v))) :
    PT X a (fun σ H Q => ta σ H fun x H' => ∃ k, TruV X.K x H' k ∧ Q k H') := by
  intro pins s σ H Q I h
  exact isTrue_plain (thn (ha pins s σ H _ I h) fun v s1 ⟨x, H1, I1, r1, q1⟩ => tru_ok pins s1 σ H1 x v Q I1 r1 q1) (he _)
theorem vals1 {x : V} {us : List Value} (r : Vals [x] us) : ∃ u, us = [u] ∧ RelV x u := by
  cases r with
  | cons r1 r2 => cases r2; exact ⟨_, rfl, r1⟩
theorem vals2 {x y : V} {us : List Value} (r : Vals [x, y] us) : ∃ u w', us = [u, w'] ∧ RelV x u ∧ RelV y w' := by
  cases r with
  | cons r1 r2 =>
    cases r2 with
    | cons r3 r4 => cases r4; exact ⟨_, _, rfl, r1, r3⟩
theorem call_max2 (hc : X.calm = true) : CallR X (.builtin "max") (fun xs H Q => ∃ i j, xs = [.int i, .int j] ∧ Q (.int (if j > i then j else i)) H) := by
  intro pins s σ H xs us Q I r h
  obtain ⟨i, j, rfl, q⟩ := h
  obtain ⟨u, w', rfl, ⟨t, rfl⟩, ⟨t', rfl⟩⟩ := vals2 r
  refine max_two_ints (I.ok.hd hc) fun h' tk k => ⟨_, H, I.kept k, ?_, q⟩
  by_cases hj : j > i
  · rw [if_pos hj, if_pos hj]; exact ⟨_, rfl⟩
  · rw [if_neg hj, if_neg hj]; exact ⟨_, rfl⟩
theorem call_min2 (hc : X.calm = true) : CallR X (.builtin "min") (fun xs H Q => ∃ i j, xs = [.int i, .int j] ∧ Q (.int (if j < i then j else i)) H) := by
  intro pins s σ H xs us Q I r h
  obtain ⟨i, j, rfl, q⟩ := h
  obtain ⟨u, w', rfl, ⟨t, rfl⟩, ⟨t', rfl⟩⟩ := vals2 r
  refine min_two_ints (I.ok.hd hc) fun h' tk k => ⟨_, H, I.kept k, ?_, q⟩
  by_cases hj : j < i
  · rw [if_pos hj, if_pos hj]; exact ⟨_, rfl⟩
  · rw [if_neg hj, if_neg hj]; exact ⟨_, rfl⟩
end
end L2
namespace L2
open PySem PySem.Spec PyProof.Rows
structure ObjM (h : Heap) (x dx C : Addr) (mA : Str → Option Value) : Prop where
  obj : h.get? x = some (PySem.W.instObj C dx)
  ns : h.Ns1 dx mA
  ne : dx ≠ x
theorem lookIn_ns {h : Heap} {dx : Addr} {mA : Str → Option Value} (n : h.Ns1 dx mA) : ∃ od, h.get? dx = some od ∧ ∀ name, PySem.W.lookIn name od = some (mA name) := by
  obtain ⟨o, es, ep, ho, hd, hk, _, hm⟩ := n
  refine ⟨o, ho, fun name => ?_⟩
  have e := hm name
  unfold nsFind findBy at e
  rw [← Array.find?_toList] at e
  unfold PySem.W.lookIn
  rw [hd]
  dsimp only
  split
  · rename_i y q
    rw [q] at e
    exact congrArg some e
  · rename_i q
    rw [q] at e
    have a : es.toList.any (·.refKey) = false := by
      rw [List.any_eq_false]
      intro y hy
      obtain ⟨z, t, hkey⟩ := hk y (Array.mem_toList_iff.mp hy)
      simp [DictEntry.refKey, hkey]
    have a' : ¬ es.toList.any (·.refKey) = true := by rw [a]; exact Bool.false_ne_true
    rw [if_neg a']
    exact congrArg some e
theorem ObjM.look {h : Heap} {x dx C : Addr} {mA : Str → Option Value} (I : ObjM h x dx C mA) : ∃ od, PySem.W.InstAt h x (PySem.W.instObj C dx) C (some od) ∧ ∀ name, PySem.W.lookIn name od = some (mA name) :=
  let ⟨od, ho, hl⟩ := lookIn_ns I.ns
  ⟨od, ⟨I.obj, rfl, rfl, ho⟩, hl⟩
section
variable {prog : Program} {w : World} {A : Around} {E : Value → Shared → Prop} {s : Shared} {K : PySem.W.Frag} {x dx C f : Addr} {mA : Str → Option Value} {name : Str} {v : Value}
theorem get_map {expr : Bool} {Q : Value → Shared → Prop} (X : K.In s.heap) (I : ObjM s.heap x dx C mA) (hg : PySem.W.plainGet K C name = true) (hh : PySem.W.hasDictIn K C = true)
    (ha : PySem.W.findIn K (.ref C) name = some none) (hv : mA name = some v) (hv' : PySem.W.handedIn v = true) (h : Q v { s with toks := s.toks + 1 }) :
    wpAny (model prog w) A (getAttr (.ref x) name expr) Q E s := by
  obtain ⟨od, J, hl⟩ := I.look
  exact PySem.W.get_value X J (PySem.W.plainGet_of hg).1 (PySem.W.findObj_own hh ha rfl (by rw [hl, hv])) hv' h
theorem get_meth {pl : Sem Bool} {Q : Value × List Value → Shared → Prop} (X : K.In s.heap) (I : ObjM s.heap x dx C mA) (hg : PySem.W.plainGet K C name = true)
    (hf : PySem.W.findIn K (.ref C) name = some (some (.ref f))) (ht : PySem.W.isFn K (.ref f) = true) (hv : mA name = none) (h : Q (.ref f, [.ref x]) s) :
    wpAny (model prog w) A (getMethod (.ref x) name pl) Q E s := by
  obtain ⟨od, J, hl⟩ := I.look
  exact PySem.W.method_fn X J (PySem.W.plainGet_of hg).1 (PySem.W.plainGet_of hg).2 hf (beq_iff_eq.mp ht) (by show (PySem.W.lookIn name od).map (·.isSome) = some false; rw [hl, hv]; rfl) h
theorem set_map {ns : List Str} {Q : Unit → Shared → Prop} (X : K.In s.heap) (I : ObjM s.heap x dx C mA)
    (hs : PySem.W.findIn K (.ref C) "__setattr__" = some (some (.builtin "object.__setattr__"))) (hp : PySem.W.plainOver K C = true) (ht : PySem.W.takerIn K C name = some none) (hh : PySem.W.hasDictIn K C = true)
    (hw : PySem.Within mA ns) (hsz : ns.length ≤ sizeLine)
    (h : ∀ h', ObjM h' x dx C (fun y => if y = name then some v else mA y) → Heap.SameBut dx s.heap h' → Q () { s with heap := h', toks := s.toks + 2 }) :
    wpAny (model prog w) A (setAttr (.ref x) name v) Q E s := by
  obtain ⟨od, J, hl⟩ := I.look
  refine PySem.W.set_plain X J hs (PySem.W.osa_open (s := { s with toks := s.toks + 1 }) (r := none) X J hp ht fun b => ?_)
  obtain ⟨cd, hc, hd'⟩ := PySem.W.any_some hh
  have hx : s.heap.get? x = some ⟨.ref C, some dx, .plain, #[]⟩ := I.obj
  refine wpAny_bind (wpAny_pure (wpAny_bind (wpAny_bind (wpAny_loadPart hx (wpAny_bind (PySem.W.Looks.here (s := { s with toks := s.toks + 1 }) (PySem.W.looks_clsIn X hc) ?_))))))
  rw [hd']
  refine wpAny_pure (a := some dx) (wpAny_bind (wpAny_pure (wpAny_bind ?_)))
  refine wpAny_nsSet1 (s := { s with toks := s.toks + 1 }) I.ns fun h' hn2 hs2 => ?_
  obtain ⟨oD, esD, epD, hoD, hdD, hcD⟩ := hn2.count (PySem.Within.cons name v hw)
  refine wpAny_bind (wpAny_lookBehind hoD (by rw [hdD]; exact pastItsLine_dict (Nat.le_trans hcD (by rw [List.length_cons]; omega))) ?_)
  exact wpAny_pure (h _ ⟨(hs2.2 _ (Ne.symm I.ne)).trans I.obj, hn2, I.ne⟩ hs2)
theorem make_map {R : Result → Shared → Prop} {vs : List Value} {kw : List (Str × Value)} (X : K.In s.heap) (hm : PySem.W.makesIn K C = true)
    (hi : PySem.W.findIn K (.ref C) "__init__" = some (some (.ref f))) (hf : PySem.W.typeIn K (.ref f) = some (.type "function"))
    (h : codeAny (model prog w) (A.under (.builtin "type.__call__" ⟨.ref C :: vs, kw⟩)) (.call (.ref f) ⟨.ref (s.heap.objs.size + 1) :: vs, kw⟩) (PySem.W.InitBack (s.heap.objs.size + 1) R)
      { s with heap := (s.heap.push PySem.W.emptyDict).push (PySem.W.instObj C s.heap.objs.size) }) :
    codeAny (model prog w) A (.call (.ref C) ⟨vs, kw⟩) R s := by
  obtain ⟨hh, g, d, t, os⟩ := s
  exact PySem.W.make_core (PySem.W.makes_of X hm) (PySem.W.looks_findIn X hi) (fun self => PySem.W.bind_fn X self hf) (.inl rfl) h
end
def putF (f : Str) (v : V) : List (Str × V) → List (Str × V)
  | [] => [(f, v)]
  | (g, x) :: r => if g = f then (g, v) :: r else (g, x) :: putF f v r
theorem lookup_putF (f g : Str) (v : V) : ∀ fs : List (Str × V), (putF f v fs).lookup g = if g = f then some v else fs.lookup g
  | [] => by
    show List.lookup g [(f, v)] = _
    by_cases h : g = f
    · have hb : (g == f) = true := beq_iff_eq.mpr h
      simp only [List.lookup, hb, if_pos h]
    · have hb : (g == f) = false := beq_eq_false_iff_ne.mpr h
      simp only [List.lookup, hb, if_neg h]
  | (k, x) :: r => by
    have ih := lookup_putF f g v r
    rw [show putF f v ((k, x) :: r) = (if k = f then (k, v) :: r else (k, x) :: putF f v r) from rfl]
    by_cases hk : k = f
    · rw [if_pos hk]
      by_cases h : g = k
      · have hb : (g == k) = true := beq_iff_eq.mpr h
        simp only [List.lookup, hb, if_pos (h.trans hk)]
      · have hb : (g == k) = false := beq_eq_false_iff_ne.mpr h
        simp only [List.lookup, hb, if_neg (fun e : g = f => h (e.trans hk.symm))]
    · rw [if_neg hk]
      by_cases h : g = k
      · have hb : (g == k) = true := beq_iff_eq.mpr h
        simp only [List.lookup, hb, if_neg (fun e : g = f => hk (h.symm.trans e))]
      · have hb : (g == k) = false := beq_eq_false_iff_ne.mpr h
        simp only [List.lookup, hb]
        exact ih
theorem keys_putF (f : Str) (v : V) : ∀ fs : List (Str × V), f ∈ (putF f v fs).map (·.1) ∧ ∀ g, g ∈ fs.map (·.1) → g ∈ (putF f v fs).map (·.1)
  | [] => ⟨by simp [putF], fun g h => by simp at h⟩
  | (k, x) :: r => by
    obtain ⟨i1, i2⟩ := keys_putF f v r
    rw [show putF f v ((k, x) :: r) = (if k = f then (k, v) :: r else (k, x) :: putF f v r) from rfl]
    by_cases hk : k = f
    · rw [if_pos hk]
      subst hk
      exact ⟨by simp, fun g h => by simpa using h⟩
    · rw [if_neg hk]
      refine ⟨?_, fun g h => ?_⟩
      · rw [List.map_cons]
        exact List.mem_cons_of_mem _ i1
      · rw [List.map_cons] at h ⊢
        rcases List.mem_cons.mp h with e | e
        · exact List.mem_cons.mpr (.inl e)
        · exact List.mem_cons_of_mem _ (i2 g e)
theorem length_putF (f : Str) (v : V) : ∀ fs : List (Str × V), (putF f v fs).length ≤ fs.length + 1
  | [] => by simp [putF]
  | (k, x) :: r => by
    have ih := length_putF f v r
    rw [show putF f v ((k, x) :: r) = (if k = f then (k, v) :: r else (k, x) :: putF f v r) from rfl]
    by_cases hk : k = f
    · rw [if_pos hk, List.length_cons, List.length_cons]; omega
    · rw [if_neg hk, List.length_cons, List.length_cons]; omega
theorem RelO.some_of {v : V} {o : Option Value} (r : RelO (some v) o) : ∃ u, o = some u ∧ RelV v u := by
  cases o with
  | none => exact (show False from r).elim
  | some u => exact ⟨u, rfl, r⟩
theorem RelO.none_of {o : Option Value} (r : RelO none o) : o = none := by
  cases o with
  | none => rfl
  | some u => exact (show False from r).elim
theorem handed_of {v : V} {u : Value} (r : RelV v u) : PySem.W.handedIn u = true := by
  cases v with
  | non => cases (show u = Value.none from r); rfl
  | bl b => cases (show u = Value.bool b from r); rfl
  | int i => obtain ⟨t, e⟩ := (show ∃ t, u = Value.int i t from r); cases e; rfl
  | str x => obtain ⟨t, e⟩ := (show ∃ t, u = Value.str x t from r); cases e; rfl
  | byt b => obtain ⟨t, e⟩ := (show ∃ t, u = Value.bytes b t from r); cases e; rfl
  | flt b => obtain ⟨t, e⟩ := (show ∃ t, u = Value.float b t from r); cases e; rfl
  | ref a => cases (show u = Value.ref a from r); rfl
  | ty n => cases (show u = Value.type n from r); rfl
section
variable {P : Program} {w : World} {H H' : Hp} {h h' : Heap} {a C dx : Addr} {fs fs' : List (Str × V)}
theorem ins_get (hok : HOk P w H h) (e : H a = some (.ins C dx fs)) : ∃ mA, ObjM h a dx C mA ∧ (∀ f, RelO (fs.lookup f) (mA f)) ∧ PySem.Within mA (fs.map (·.1)) ∧ fs.length ≤ 1000 ∧ H dx = some (.own a) := by
  obtain ⟨d, z, ne, ob, mA, n, r, q⟩ := (show ObjOk P w H h a (.ins C dx fs) from hok a _ e)
  exact ⟨mA, ⟨ob, n, ne⟩, r, q, z, d⟩
end
structure Cls (K : PySem.W.Frag) (C : Addr) : Prop where
  pg : PySem.W.plainGet K C Str.empty = true
  hd : PySem.W.hasDictIn K C = true
  po : PySem.W.plainOver K C = true
  sa : PySem.W.findIn K (.ref C) "__setattr__" = some (some (.builtin "object.__setattr__"))
theorem Cls.get {K : PySem.W.Frag} {C : Addr} (c : Cls K C) (f : Str) : PySem.W.plainGet K C f = true := c.pg
def NoAttr (K : PySem.W.Frag) (C : Addr) (f : Str) : Prop := PySem.W.findIn K (.ref C) f = some none
theorem NoAttr.taker {K : PySem.W.Frag} {C : Addr} {f : Str} (n : NoAttr K C f) : PySem.W.takerIn K C f = some none := by
  unfold PySem.W.takerIn
  rw [show PySem.W.findIn K (.ref C) f = some none from n]
  rfl
structure Meth (K : PySem.W.Frag) (C : Addr) (m : Str) (f : Addr) : Prop where
  at_ : PySem.W.findIn K (.ref C) m = some (some (.ref f))
  fn : PySem.W.isFn K (.ref f) = true
  kp : PySem.W.keepIn K (.ref f) = true
section
variable {X : Cx} {pins : List (Addr × Obj)} {σ : St} {H : Hp} {s : Shared} {a C dx : Addr} {fs : List (Str × V)} {f : Str} {v : V} {A : Around} {E : Value → Shared → Prop}
theorem getattr_ok {b : Bool} {Q : Value → Shared → Prop} (I : Inv X pins σ H s) (e : H a = some (.ins C dx fs)) (c : Cls X.K C) (n : NoAttr X.K C f) (l : fs.lookup f = some v)
    (h : ∀ u s', Inv X pins σ H s' → RelV v u → Q u s') : wpAny (model X.prog X.w) A (getAttr (.ref a) f b) Q E s := by
  obtain ⟨mA, O, r, _, _, _⟩ := ins_get I.hok e
  obtain ⟨u, hu, ru⟩ := RelO.some_of (v := v) (o := mA f) (by rw [← l]; exact r f)
  exact get_map I.kIn O (c.get f) c.hd n hu (handed_of ru) (h u _ (I.tok _) ru)
theorem getmeth_ok {m : Str} {g : Addr} {pl : Sem Bool} {Q : Value × List Value → Shared → Prop} (I : Inv X pins σ H s) (e : H a = some (.ins C dx fs)) (c : Cls X.K C) (k : Meth X.K C m g) (l : fs.lookup m = none)
    (h : Q (.ref g, [.ref a]) s) : wpAny (model X.prog X.w) A (getMethod (.ref a) m pl) Q E s := by
  obtain ⟨mA, O, r, _, _, _⟩ := ins_get I.hok e
  have hn : mA m = none := RelO.none_of (by rw [← l]; exact r m)
  exact get_meth I.kIn O (c.get m) k.at_ k.fn hn h
theorem setattr_ok {y : V} {u : Value} {Q : Unit → Shared → Prop} (I : Inv X pins σ H s) (e : H a = some (.ins C dx fs)) (c : Cls X.K C) (n : NoAttr X.K C f) (hl : fs.length < 1000) (ry : RelV y u)
    (h : ∀ s', Inv X pins σ (upd H a (.ins C dx (putF f y fs))) s' → Q () s') : wpAny (model X.prog X.w) A (setAttr (.ref a) f u) Q E s := by
  obtain ⟨mA, O, r, wi, _, ho⟩ := ins_get I.hok e
  have hz : (fs.map (·.1)).length ≤ sizeLine := by rw [List.length_map, sizeLine_eq]; omega
  refine set_map I.kIn O c.sa c.po n.taker c.hd wi hz fun h' O' sb => h _ ?_
  have hd : ∃ o, h'.get? dx = some o := let ⟨o, _, _, e', _⟩ := O'.ns; ⟨o, e'⟩
  refine I.write (x := a) (e := dx) (by rw [e]; exact True.intro) (.inr ho) (fun b q hb z => (sb.2 b hb).trans z) hd ?_
  refine ⟨by rw [upd_ne O.ne]; exact ho, ?_, O.ne, O'.obj, _, O'.ns, fun g => ?_, fun g hg => ?_⟩
  · have := length_putF f y fs; omega
  · show RelO ((putF f y fs).lookup g) (if g = f then some u else mA g)
    rw [lookup_putF]
    by_cases q : g = f
    · rw [if_pos q, if_pos q]; exact ry
    · rw [if_neg q, if_neg q]; exact r g
  · by_cases q : g = f
    · rw [q]; exact (keys_putF f y fs).1
    · refine (keys_putF f y fs).2 g (wi g fun z => hg ?_)
      show (if g = f then some u else mA g) = none
      rw [if_neg q]; exact z
theorem Inv.made (I : Inv X pins σ H s) : Inv X pins σ (upd (upd H s.heap.objs.size (.own (s.heap.objs.size + 1))) (s.heap.objs.size + 1) (.ins C s.heap.objs.size []))
    { s with heap := (s.heap.push PySem.W.emptyDict).push (PySem.W.instObj C s.heap.objs.size) } := by
  have e1 : (s.heap.push PySem.W.emptyDict).get? s.heap.objs.size = some PySem.W.emptyDict := Heap.get?_push_size s.heap rfl
  have e2 : ((s.heap.push PySem.W.emptyDict).push (PySem.W.instObj C s.heap.objs.size)).get? (s.heap.objs.size + 1) = some (PySem.W.instObj C s.heap.objs.size) := by
    have := Heap.get?_push_size (s.heap.push PySem.W.emptyDict) (o := PySem.W.instObj C s.heap.objs.size) rfl
    rwa [Heap.size_push] at this
  have e3 : (s.heap.push PySem.W.emptyDict).Ns s.heap.objs.size (fun _ => none) := ⟨PySem.W.emptyDict, #[], _, e1, rfl, (fun e he => absurd he (by simp)), fun _ => rfl⟩
  have I1 := I.laid (a := s.heap.objs.size) (o := .own (s.heap.objs.size + 1)) (h' := s.heap.push PySem.W.emptyDict) (t' := s.toks) (fun b u q => Heap.get?_push_of_some _ q) (Nat.le_refl _) ⟨_, e1⟩
  refine I1.laid (a := s.heap.objs.size + 1) (o := .ins C s.heap.objs.size []) (t' := s.toks) (fun b u q => Heap.get?_push_of_some _ q) (Nat.le_of_eq (Heap.size_push _ _)) ?_
  have ne : s.heap.objs.size ≠ s.heap.objs.size + 1 := Nat.ne_of_lt (Nat.lt_succ_self _)
  refine ⟨by rw [upd_ne ne, upd_same], Nat.zero_le _, ne, e2, fun _ => none, (Heap.Ns1.of_empty e3).at fun o q => Heap.get?_push_of_some _ q, fun _ => True.intro, fun y hy => absurd rfl hy⟩
theorem attr_of {prog : Program} {w : World} {env : Env} {e : Expr} {f : Str} {pos : Pos} {s : Shared} {Q : Value → Shared → Prop} (hb : attributeBase e f env (eval e env) = eval e env)
    (h : wpAny (model prog w) A (eval e env) (fun o s₁ => wpAny (model prog w) A (getAttr o f true) Q E s₁) E s) : wpAny (model prog w) A (eval (.Attribute e f pos) env) Q E s :=
  Attribute_any_ h (by rw [arm_eval_Attribute, hb])
end
def tFld (K : PySem.W.Frag) (ta : TE) (f : Str) : TE := fun σ H Q => ta σ H fun x H1 => ∃ a C dx fs v, x = .ref a ∧ H1 a = some (.ins C dx fs) ∧ Cls K C ∧ NoAttr K C f ∧ fs.lookup f = some v ∧ Q v H1
def sFld (K : PySem.W.Frag) (ta tv : TE) (f : Str) : TS := fun D σ H => tv σ H fun y H1 => ta σ H1 fun x H2 => ∃ a C dx fs, x = .ref a ∧ H2 a = some (.ins C dx fs) ∧ Cls K C ∧ NoAttr K C f ∧ fs.length < 1000 ∧
  D.nx σ (upd H2 a (.ins C dx (putF f y fs)))
def InOp (X : Cx) (op : Operator) (rd : V → V → Hp → VK → Prop) : Prop :=
  ∀ (pins : List (Addr × Obj)) (s : Shared) (σ : St) (H : Hp) (x y : V) (u v : Value) (Q : VK), Inv X pins σ H s → RelV x u → RelV y v → rd x y H Q → wpAny (model X.prog X.w) X.A (inplaceOp op u v) (EP X pins σ Q) X.xe s
def sFldAug (K : PySem.W.Frag) (ta tv : TE) (rd : V → V → Hp → VK → Prop) (f : Str) : TS := fun D σ H => ta σ H fun x H1 => ∃ a C dx fs v, x = .ref a ∧ H1 a = some (.ins C dx fs) ∧ Cls K C ∧ NoAttr K C f ∧ fs.lookup f = some v ∧
  tv σ H1 fun y H2 => rd v y H2 fun z H3 => ∃ dx' fs', H3 a = some (.ins C dx' fs') ∧ fs'.length < 1000 ∧ D.nx σ (upd H3 a (.ins C dx' (putF f z fs')))
section
variable {X : Cx} {o e value : Expr} {f : Str} {pos pos' tpos : Pos} {ta tv : TE}
theorem pe_fld (he : PE X e ta) (hb : attributeBase e f X.env (eval e X.env) = eval e X.env) : PE X (.Attribute e f pos) (tFld X.K ta f) := by
  intro pins s σ H Q I h
  refine attr_of hb (thn (he pins s σ H _ I h) fun u s1 ⟨x, H1, I1, rx, a, C, dx, fs, v, ex, ea, c, n, l, q⟩ => ?_)
  subst ex
  obtain rfl : u = Value.ref a := rx
  exact getattr_ok I1 ea c n l fun u' s2 I2 ru => ⟨v, H1, I2, ru, q⟩
theorem ps_fld (ha : PE X o ta) (hv : PE X value tv) (hs : swapsWith value (some (.Attribute o f pos')) pos.line X.env = pure false) : PS X (.Assign [.Attribute o f pos'] value pos) (sFld X.K ta tv f) := by
  intro pins s σ H D I h
  refine plainObj_wpAny_Assign_Attribute (thn (hv pins s σ H _ I h) fun u s1 ⟨y, H1, I1, ry, q⟩ => thn (ha pins s1 σ H1 _ I1 q) fun ov s2 ⟨x, H2, I2, rx, a, C, dx, fs, ex, ea, c, n, l, q2⟩ => ?_) hs
  subst ex
  obtain rfl : ov = Value.ref a := rx
  exact setattr_ok I2 ea c n l ry fun s3 I3 => ⟨σ, _, I3, q2⟩
theorem ps_fldaug {op : Operator} {rd : V → V → Hp → VK → Prop} (ha : PE X o ta) (hv : PE X value tv) (hop : InOp X op rd) : PS X (.AugAssign (.Attribute o f tpos) op value pos) (sFldAug X.K ta tv rd f) := by
  intro pins s σ H D I h
  refine wpAny_AugAssign_AttributeAny (thn (ha pins s σ H _ I h) fun ov s1 ⟨x, H1, I1, rx, a, C, dx, fs, v, ex, ea, c, n, l, q⟩ => ?_)
  subst ex
  obtain rfl : ov = Value.ref a := rx
  refine getattr_ok I1 ea c n l fun u s2 I2 ru => thn (hv pins s2 σ H1 _ I2 q) fun w3 s3 ⟨y, H2, I3, ry, q3⟩ => thn (hop pins s3 σ H2 v y u w3 _ I3 ru ry q3) fun w4 s4 ⟨z, H3, I4, rz, dx', fs', ea', l', q4⟩ => ?_
  exact setattr_ok I4 ea' c n l' rz fun s5 I5 => ⟨σ, _, I5, q4⟩
def rAdd : V → V → Hp → VK → Prop := fun x y H Q => ∃ i j, x = .int i ∧ y = .int j ∧ Q (.int (i + j)) H
theorem in_add : InOp X .Add rAdd := by
  rintro pins s σ H x y u v Q I rx ry ⟨i, j, rfl, rfl, q⟩
  obtain ⟨t, rfl⟩ := (show ∃ t, u = Value.int i t from rx)
  obtain ⟨t', rfl⟩ := (show ∃ t', v = Value.int j t' from ry)
  exact PyProof.Rows.iadd_int ⟨.int (i + j), H, I.tok _, ⟨_, rfl⟩, q⟩
end
section
variable {X : Cx} {pins : List (Addr × Obj)} {σ : St} {H : Hp} {s : Shared} {A : Around} {E : Value → Shared → Prop} {Q : Value → Shared → Prop} {c : Value} {b : Bool}
end
end L2
namespace L2
open PySem PySem.Spec PyProof.Rows
structure Room (k : Nat) (A : Around) : Prop where
  hd : A.handled = none
  dp : A.depth + 3 * k + 5 < recursionLimit
  un : A.units + 16 * k + 200 < cLine
theorem Room.mono {j k : Nat} {A : Around} (r : Room k A) (h : j ≤ k) : Room j A := ⟨r.hd, by have := r.dp; omega, by have := r.un; omega⟩
theorem Room.deeper {k : Nat} {A : Around} (r : Room (k + 1) A) (env : Env) : Room k (A.deeper env) :=
  ⟨r.hd, by have := r.dp; show A.depth + 1 + 3 * k + 5 < _; omega, by have := r.un; show A.units + 3 + 16 * k + 200 < _; omega⟩
theorem Room.in1 {k : Nat} {A : Around} (r : Room (k + 1) A) : Room k A.in1 :=
  ⟨r.hd, by have := r.dp; show A.depth + 3 * k + 5 < _; omega, by have := r.un; show A.units + 1 + 16 * k + 200 < _; omega⟩
theorem make_depth {A : Around} {C : Addr} {us : List Value} {kw : List (Str × Value)} : (A.under (.builtin "type.__call__" ⟨.ref C :: us, kw⟩)).depth = A.depth + 1 := by
  first | rfl | simp [Around.under, Code.weight, Code.isCreation, Code.isGuard, Code.isCaller, Code.frames, Code.isFrame, guardIds]
theorem make_units {A : Around} {C : Addr} {us : List Value} {kw : List (Str × Value)} : (A.under (.builtin "type.__call__" ⟨.ref C :: us, kw⟩)).units = A.units + 1 := by
  first | rfl | simp [Around.under, Code.cUnits, Code.frames, Code.isFrame]
theorem Room.make {k : Nat} {A : Around} (r : Room (k + 1) A) (C : Addr) (us : List Value) (kw : List (Str × Value)) : Room k (A.under (.builtin "type.__call__" ⟨.ref C :: us, kw⟩)) :=
  ⟨r.hd, by have := r.dp; rw [make_depth]; omega, by have := r.un; rw [make_units]; omega⟩
theorem Room.depth {k : Nat} {A : Around} (r : Room k A) : A.depth < recursionLimit := by have := r.dp; omega
theorem Room.units {k : Nat} {A : Around} (r : Room k A) : A.units + 64 < cLine := by have := r.un; omega
def tNil : TA := fun _ H Q => Q [] H
def tCons (ta : TE) (tr : TA) : TA := fun σ H Q => ta σ H fun x H1 => tr σ H1 fun xs H2 => Q (x :: xs) H2
section
variable {X : Cx} {e : Expr} {es : List Expr} {te : TE} {t : TA} {pos : Pos}
theorem pa_nil : PA X [] tNil := fun _ _ _ _ H Q I h => Calls.spliced_nil ⟨[], H, I, .nil, h⟩
theorem pa_cons (ha : PE X e te) (hr : PA X es t) (hs : starEach (e :: es) X.env = (false, eval e X.env) :: starEach es X.env := by rfl) : PA X (e :: es) (tCons te t) := by
  intro pos pins s σ H Q I h
  rw [hs]
  show wpAny _ _ (spliced ((false, eval e X.env) :: backTo pos (starEach es X.env))) _ _ s
  refine Calls.spliced_cons (thn (ha pins s σ H _ I h) fun u s1 ⟨x, H1, I1, r1, q1⟩ => ?_)
  exact thn (hr pos pins s1 σ H1 _ I1 q1) fun us s2 ⟨xs, H2, I2, r2, q2⟩ => ⟨x :: xs, H2, I2, .cons r1 r2, q2⟩
def tTup (t : TA) : TE := fun σ H Q => t σ H fun xs H1 => xs.length ≤ sizeLine ∧ ∀ p, H1 p = none → Q (.ref p) (upd H1 p (.tup xs))
def tLst (t : TA) : TE := fun σ H Q => t σ H fun xs H1 => xs.length ≤ sizeLine ∧ ∀ p, H1 p = none → Q (.ref p) (upd H1 p (.lst xs))
theorem pe_tup {x1} (h : PA X es t) : PE X (.Tuple es x1 pos) (tTup t) := by
  intro pins s σ H Q I hq
  refine wpAny_Tuple_spliced (thn (h pos pins s σ H _ I hq) fun us s1 ⟨xs, H1, I1, r, z, q⟩ => ⟨by rw [← r.length]; exact z, ?_⟩)
  have hf : H1 s1.heap.objs.size = none := I1.hok.fresh (Nat.le_refl _)
  refine ⟨.ref s1.heap.objs.size, upd H1 s1.heap.objs.size (.tup xs), I1.laid (t' := s1.toks) (fun b u e => Heap.get?_push_of_some _ e) (Nat.le_refl _) ?_, rfl, q _ hf⟩
  exact ⟨z, us, r, ⟨_, Heap.get?_push_size _ rfl, rfl, _, rfl⟩⟩
theorem pe_lst (h : PA X es t) : PE X (.List es pos) (tLst t) := by
  intro pins s σ H Q I hq
  refine wpAny_List_spliced (thn (h pos pins s σ H _ I hq) fun us s1 ⟨xs, H1, I1, r, z, q⟩ => ⟨by rw [← r.length]; exact z, ?_⟩)
  have hf : H1 s1.heap.objs.size = none := I1.hok.fresh (Nat.le_refl _)
  refine ⟨.ref s1.heap.objs.size, upd H1 s1.heap.objs.size (.lst xs), I1.laid (t' := s1.toks) (fun b u e => Heap.get?_push_of_some _ e) (Nat.le_refl _) ?_, rfl, q _ hf⟩
  exact ⟨z, us, 0, r, Heap.get?_push_size _ rfl⟩
end
abbrev Sp := List V → Hp → VK → XK → Prop
abbrev CXT := List Env → Hp → Shared → XK → Value → Shared → Prop
structure Env0 (P : Program) (w : World) (K : PySem.W.Frag) (mg : Str → Option Value) (base : Heap) (A : Around) (outer : List Env) (s : Shared) (H : Hp) : Prop where
  frames : A.frames = some outer
  mod : Mod K mg base
  bs : ∀ b o, base.get? b = some o → s.heap.get? b = some o ∧ H b = none
  bsz : base.objs.size ≤ s.heap.objs.size
  funs : s.heap.FunFrames base outer
  frf : ∀ b ∈ frs outer, H b = none
  hok : HOk P w H s.heap
  bare : AllBare s.gens
def CE (outer : List Env) (P : Program) (w : World) (H : Hp) (s : Shared) (Q : VK) (u : Value) (s' : Shared) : Prop :=
  ∃ v H', s'.os = s.os ∧ AllBare s'.gens ∧ Un (frs outer) [] H H' s.heap s'.heap ∧ HOk P w H' s'.heap ∧ RelV v u ∧ Q v H'
def CR (CX : CXT) (outer : List Env) (P : Program) (w : World) (H : Hp) (s : Shared) (Q : VK) (E : XK) (r : Result) (s' : Shared) : Prop :=
  match r with
  | .ok (.ret u) => CE outer P w H s Q u s'
  | .ok _ => False
  | .error e => CX outer H s E e s'
structure FnOk (P : Program) (w : World) (K : PySem.W.Frag) (mg : Str → Option Value) (base : Heap) (CX : CXT) (k : Nat) (f : Addr) (fd : FuncData) (ps : List Str) (sp : Sp) : Prop where
  len : ∀ vs H Q E, sp vs H Q E → vs.length = ps.length
  run : ∀ (A : Around) (outer : List Env) (s : Shared) (H : Hp) (args : Args) (us : List Value) (vs : List V) (Q : VK) (E : XK), Room k A → Env0 P w K mg base A outer s H → BindsTo s fd args (ps.zip us) → Vals vs us → sp vs H Q E →
    codeAny (model P w) A (.call (.ref f) args) (CR CX outer P w H s Q E) s
theorem FnOk.mono {P : Program} {w : World} {K : PySem.W.Frag} {mg : Str → Option Value} {base : Heap} {CX : CXT} {j k : Nat} {f : Addr} {fd : FuncData} {ps : List Str} {sp : Sp} (F : FnOk P w K mg base CX j f fd ps sp) (h : j ≤ k) :
    FnOk P w K mg base CX k f fd ps sp := ⟨F.len, fun A outer s H args us vs Q E hr => F.run A outer s H args us vs Q E (hr.mono h)⟩
theorem Env0.make {P : Program} {w : World} {K : PySem.W.Frag} {mg : Str → Option Value} {base : Heap} {A : Around} {outer : List Env} {s : Shared} {H : Hp} (e : Env0 P w K mg base A outer s H) (C : Addr) (us : List Value) (kw : List (Str × Value)) :
    Env0 P w K mg base (A.under (.builtin "type.__call__" ⟨.ref C :: us, kw⟩)) outer s H := ⟨by first | exact e.frames | (simpa [Around.under, Code.envs, Code.isFrame, pushEnvs] using e.frames), e.mod, e.bs, e.bsz, e.funs, e.frf, e.hok, e.bare⟩
theorem Env0.in1 {P : Program} {w : World} {K : PySem.W.Frag} {mg : Str → Option Value} {base : Heap} {A : Around} {outer : List Env} {s : Shared} {H : Hp} (e : Env0 P w K mg base A outer s H) :
    Env0 P w K mg base A.in1 outer s H := ⟨e.frames, e.mod, e.bs, e.bsz, e.funs, e.frf, e.hok, e.bare⟩
section
variable {X : Cx} {pins : List (Addr × Obj)} {σ : St} {H : Hp} {s s' : Shared}
theorem Inv.env0 (I : Inv X pins σ H s) : Env0 X.prog X.w X.K X.mg X.base X.A X.stack s H :=
  ⟨I.ok.frames, I.ok.mod, I.bs, Nat.le_trans I.ok.bsz I.sz, I.stack, I.stkFree, I.hok, I.bare⟩
theorem Inv.after {Q : VK} {u : Value} (I : Inv X pins σ H s) (h : CE X.stack X.prog X.w H s Q u s') : EP X pins σ Q u s' := by
  obtain ⟨v, H', os, bare, un, hok, r, q⟩ := h
  obtain ⟨hh, g, d, t, os'⟩ := s'
  obtain rfl : os' = s.os := os
  exact ⟨v, H', I.call (h' := hh) (g' := g) (d' := d) (t' := t) (ch := []) un hok bare (fun b z => absurd z (by simp)), r, q⟩
end
def tCall (sp : Sp) (dvs : List V) (E : XK) (t : TA) : TE := fun σ H Q => t σ H fun vs H1 => sp (vs ++ dvs) H1 Q E
def tMeth (C : Addr) (m : Str) (sp : Sp) (dvs : List V) (E : XK) (ta : TE) (t : TA) : TE := fun σ H Q => ta σ H fun x H1 => ∃ a dx fs, x = .ref a ∧ H1 a = some (.ins C dx fs) ∧ fs.lookup m = none ∧
  t σ H1 fun vs H2 => sp (x :: (vs ++ dvs)) H2 Q E
def tMake (C : Addr) (sp : Sp) (dvs : List V) (E : XK) (t : TA) : TE := fun σ H Q => t σ H fun vs H1 => ∀ x dx, H1 x = none → H1 dx = none → dx ≠ x →
  sp (.ref x :: (vs ++ dvs)) (upd (upd H1 dx (.own x)) x (.ins C dx [])) (fun v H2 => v = .non ∧ Q (.ref x) H2) E
def Binds (K : PySem.W.Frag) (fd : FuncData) (ps : List Str) (ds : List Value) : Prop :=
  ∀ (s : Shared) (us : List Value), K.In s.heap → (us ++ ds).length = ps.length → BindsTo s fd ⟨us, []⟩ (ps.zip (us ++ ds))
theorem Binds.all {K : PySem.W.Frag} {fd : FuncData} {ps : List Str} (h : ∀ us : List Value, us.length = ps.length → bindArgs fd ⟨us, []⟩ = pure (ps.zip us)) : Binds K fd ps [] := fun s us _ hl => by
  rw [List.append_nil] at hl ⊢
  exact .of_eq (h us hl)
def Passes (CX : CXT) (X : Cx) (E : XK) : Prop := ∀ (pins : List (Addr × Obj)) (σ : St) (H : Hp) (s : Shared) (e : Value) (s' : Shared), Inv X pins σ H s → CX X.stack H s E e s' → X.xe e s'
section
variable {X : Cx} {CX : CXT} {k : Nat} {f C : Addr} {fd : FuncData} {ps : List Str} {sp : Sp} {dvs : List V} {ds : List Value} {E : XK} {x m : Str} {p pos apos : Pos} {e o : Expr} {es : List Expr} {ta : TE} {t : TA}
theorem run_fn {pins : List (Addr × Obj)} {σ : St} {H : Hp} {s : Shared} {Q : VK} {us : List Value} {vs : List V} (F : FnOk X.prog X.w X.K X.mg X.base CX k f fd ps sp) (hr : Room k X.A) (hb : Binds X.K fd ps ds) (hd : Vals dvs ds) (hx : Passes CX X E)
    (I : Inv X pins σ H s) (r : Vals vs us) (h : sp (vs ++ dvs) H Q E) : wpAny (model X.prog X.w) X.A (call (.ref f) us) (EP X pins σ Q) X.xe s := by
  have r2 : Vals (vs ++ dvs) (us ++ ds) := r.append hd
  have hl : (us ++ ds).length = ps.length := by rw [← r2.length]; exact F.len _ _ _ _ h
  refine wpAny_call (codeAny_mono (F.run X.A X.stack s H ⟨us, []⟩ (us ++ ds) (vs ++ dvs) Q E hr I.env0 (hb s us I.kIn hl) r2 h) fun r s' hq => ?_)
  cases r with
  | error e => exact hx pins σ H s e s' I hq
  | ok fl =>
    cases fl with
    | ret u => exact I.after hq
    | next => exact False.elim hq
    | brk => exact False.elim hq
    | cont => exact False.elim hq
theorem pe_call (F : FnOk X.prog X.w X.K X.mg X.base CX k f fd ps sp) (hr : Room k X.A) (hg : Gl X x) (hm : X.mg x = some (.ref f)) (hk : PySem.W.keepIn X.K (.ref f) = true) (hb : Binds X.K fd ps ds) (hd : Vals dvs ds) (hx : Passes CX X E)
    (ha : PA X (e :: es) t) (hdb : (x == ("__debug__" : Str)) = false := by decide) (he : starEach (e :: es) X.env = (false, eval e X.env) :: starEach es X.env := by rfl) (hpl : (backTo pos (starEach es X.env)).any (·.1) = false := by rfl) :
    PE X (.Call (.Name x p) (e :: es) [] pos) (tCall sp dvs E t) := by
  intro pins s σ H Q I h
  refine wpAny_Call_Name_kw (ld_glob I hg hm ?_ hdb)
  refine PySem.W.callWith_K (h₀ := X.base) I.ok.mod.kin hk (thn (ha pos pins s σ H _ I h) fun us s1 ⟨vs, H1, I1, r, q⟩ => ⟨I1.kIn, ?_⟩) he hpl
  exact run_fn F hr hb hd hx I1 r q
theorem pe_meth {pl : Sem Bool} (he : PE X o ta) (c : Cls X.K C) (hm : Meth X.K C m f) (F : FnOk X.prog X.w X.K X.mg X.base CX k f fd ps sp) (hr : Room k X.A) (hb : Binds X.K fd ps ds) (hd : Vals dvs ds) (hx : Passes CX X E) (ha : PA X (e :: es) t)
    (hst : starEach (e :: es) X.env = (false, eval e X.env) :: starEach es X.env := by rfl) (hpl : (backTo pos (starEach es X.env)).any (·.1) = false := by rfl)
    (ht : eval (.Call (.Attribute o m apos) (e :: es) [] pos) X.env = (do
      let ov ← eval o X.env
      standAt apos.atName
      let (f, first) ← holding [ov] (getMethod ov m pl)
      callWith pos f first (backTo pos (starEach (e :: es) X.env)) (backToKw pos (keywordEach [] X.env))) := by rfl) :
    PE X (.Call (.Attribute o m apos) (e :: es) [] pos) (tMeth C m sp dvs E ta t) := by
  intro pins s σ H Q I h
  refine PySem.W.methodCall_KW (pl := pl) (thn (he pins s σ H _ I h) fun u s1 ⟨x, H1, I1, rx, a, dx, fs, ex, ea, l, q⟩ => ?_) ht
  subst ex
  obtain rfl : u = Value.ref a := rx
  refine getmeth_ok I1 ea c hm l ?_
  refine PySem.W.callWith_K (first := [.ref a]) (h₀ := X.base) I.ok.mod.kin hm.kp (thn (ha pos pins s1 σ H1 _ I1 q) fun us s2 ⟨vs, H2, I2, r, q2⟩ => ⟨I2.kIn, ?_⟩) hst hpl
  exact run_fn (us := .ref a :: us) (vs := .ref a :: vs) F hr hb hd hx I2 (.cons rfl r) q2
structure Mk (K : PySem.W.Frag) (C f : Addr) : Prop where
  makes : PySem.W.makesIn K C = true
  init : PySem.W.findIn K (.ref C) "__init__" = some (some (.ref f))
  fn : PySem.W.isFn K (.ref f) = true
  kp : PySem.W.keepIn K (.ref C) = true
theorem run_make {pins : List (Addr × Obj)} {σ : St} {H : Hp} {s : Shared} {Q : VK} {us : List Value} {vs : List V} (M : Mk X.K C f) (F : FnOk X.prog X.w X.K X.mg X.base CX k f fd ps sp) (hr : Room (k + 1) X.A) (hb : Binds X.K fd ps ds) (hd : Vals dvs ds)
    (hx : Passes CX X E) (I : Inv X pins σ H s) (r : Vals vs us)
    (h : ∀ x dx, H x = none → H dx = none → dx ≠ x → sp (.ref x :: (vs ++ dvs)) (upd (upd H dx (.own x)) x (.ins C dx [])) (fun v H2 => v = .non ∧ Q (.ref x) H2) E) :
    wpAny (model X.prog X.w) X.A (call (.ref C) us) (EP X pins σ Q) X.xe s := by
  have hq := h (s.heap.objs.size + 1) s.heap.objs.size (I.hok.fresh (Nat.le_succ _)) (I.hok.fresh (Nat.le_refl _)) (Nat.ne_of_lt (Nat.lt_succ_self _))
  have I2 := Inv.made (C := C) I
  have r2 : Vals (V.ref (s.heap.objs.size + 1) :: (vs ++ dvs)) (Value.ref (s.heap.objs.size + 1) :: (us ++ ds)) := .cons rfl (r.append hd)
  have hl : (Value.ref (s.heap.objs.size + 1) :: us ++ ds).length = ps.length := by
    have e := r2.length
    rw [F.len _ _ _ _ hq] at e
    exact e.symm
  refine wpAny_call (make_map (f := f) I.kIn M.makes M.init (beq_iff_eq.mp M.fn) (codeAny_mono (F.run _ X.stack _ _ ⟨Value.ref (s.heap.objs.size + 1) :: us, []⟩ (Value.ref (s.heap.objs.size + 1) :: (us ++ ds)) _ _ E (hr.make C us [])
    (I2.env0.make C us []) (hb _ (Value.ref (s.heap.objs.size + 1) :: us) I2.kIn hl) r2 hq) fun r s' hq' => ?_))
  cases r with
  | error e => exact hx pins σ _ _ e s' I2 hq'
  | ok fl =>
    cases fl with
    | ret u =>
      obtain ⟨v, H', I3, rv, ev, q3⟩ := I2.after hq'
      subst ev
      exact ⟨rv, ⟨V.ref (s.heap.objs.size + 1), H', I3, rfl, q3⟩⟩
    | next => exact False.elim hq'
    | brk => exact False.elim hq'
    | cont => exact False.elim hq'
theorem pe_make (M : Mk X.K C f) (F : FnOk X.prog X.w X.K X.mg X.base CX k f fd ps sp) (hr : Room (k + 1) X.A) (hg : Gl X x) (hm : X.mg x = some (.ref C)) (hb : Binds X.K fd ps ds) (hd : Vals dvs ds) (hx : Passes CX X E)
    (ha : PA X (e :: es) t) (hdb : (x == ("__debug__" : Str)) = false := by decide) (he : starEach (e :: es) X.env = (false, eval e X.env) :: starEach es X.env := by rfl) (hpl : (backTo pos (starEach es X.env)).any (·.1) = false := by rfl) :
    PE X (.Call (.Name x p) (e :: es) [] pos) (tMake C sp dvs E t) := by
  intro pins s σ H Q I h
  refine wpAny_Call_Name_kw (ld_glob I hg hm ?_ hdb)
  refine PySem.W.callWith_K (h₀ := X.base) I.ok.mod.kin M.kp (thn (ha pos pins s σ H _ I h) fun us s1 ⟨vs, H1, I1, r, q⟩ => ⟨I1.kIn, ?_⟩) he hpl
  exact run_make M F hr hb hd hx I1 r q
end
section
variable {X : Cx} {CX : CXT} {k : Nat} {f C : Addr} {fd : FuncData} {ps ks : List Str} {sp : Sp} {E : XK} {x m : Str} {p pos apos kpos : Pos} {e o : Expr} {es : List Expr} {kws : List Keyword} {te ta : TE} {t tk : TA} {nm : Option Str}
variable {g : List Value → List Value → List Value} {gV : List V → List V → List V}
end
structure FnScope (N P : List Str) (sc : Scope) : Prop where
  kind : sc.kind = .function
  co : sc.isCoroutine = false
  gen : sc.isGenerator = false
  nd : N.Nodup
  pre : N.take P.length = P
  par : ∀ x ∈ P, sc.names.lookup x = some .local ∨ sc.names.lookup x = some .cell
  nofree : ∀ y ∈ sc.names, y.2 ≠ .free
theorem bindL_out {kindOf : Str → Option NameKind} {x : Str} : ∀ {binds : List (Str × Value)} {m : Str → Option Value}, (∀ v, (x, v) ∉ binds) → bindL kindOf binds m x = m x
  | [], _, _ => rfl
  | (n, v) :: r, m, h => by
    unfold bindL
    rw [bindL_out fun w hw => h w (List.mem_cons_of_mem _ hw)]
    split
    · have : x ≠ n := by rintro rfl; exact h v List.mem_cons_self
      simp [this]
    · rfl
theorem bindC_out {kindOf : Str → Option NameKind} {x : Str} : ∀ {binds : List (Str × Value)} {m : Str → Option Value}, (∀ v, (x, v) ∉ binds) → bindC kindOf binds m x = m x
  | [], _, _ => rfl
  | (n, v) :: r, m, h => by
    unfold bindC
    rw [bindC_out fun w hw => h w (List.mem_cons_of_mem _ hw)]
    split
    · rfl
    · have : x ≠ n := by rintro rfl; exact h v List.mem_cons_self
      simp [this]
theorem bindL_get {kindOf : Str → Option NameKind} {x : Str} {v : Value} : ∀ {P : List Str} {vs : List Value} {i : Nat} {m : Str → Option Value}, P.Nodup → P[i]? = some x → vs[i]? = some v → kindOf x = some .local →
    bindL kindOf (P.zip vs) m x = some v
  | [], _, _, _, _, h, _, _ => by simp at h
  | _ :: _, [], _, _, _, _, h, _ => by simp at h
  | p :: P, w :: vs, 0, m, nd, h1, h2, hk => by
    simp at h1 h2; subst h1; subst h2
    show bindL kindOf ((p, w) :: P.zip vs) m p = _
    unfold bindL
    rw [bindL_out fun v hv => (List.nodup_cons.mp nd).1 (List.of_mem_zip hv).1, if_pos hk]
    simp
  | p :: P, w :: vs, i + 1, m, nd, h1, h2, hk => by
    show bindL kindOf ((p, w) :: P.zip vs) m x = _
    unfold bindL
    exact bindL_get (i := i) (List.nodup_cons.mp nd).2 (by simpa using h1) (by simpa using h2) hk
theorem bindC_get {kindOf : Str → Option NameKind} {x : Str} {v : Value} : ∀ {P : List Str} {vs : List Value} {i : Nat} {m : Str → Option Value}, P.Nodup → P[i]? = some x → vs[i]? = some v → kindOf x ≠ some .local →
    bindC kindOf (P.zip vs) m x = some v
  | [], _, _, _, _, h, _, _ => by simp at h
  | _ :: _, [], _, _, _, _, h, _ => by simp at h
  | p :: P, w :: vs, 0, m, nd, h1, h2, hk => by
    simp at h1 h2; subst h1; subst h2
    show bindC kindOf ((p, w) :: P.zip vs) m p = _
    unfold bindC
    rw [bindC_out fun v hv => (List.nodup_cons.mp nd).1 (List.of_mem_zip hv).1, if_neg hk]
    simp
  | p :: P, w :: vs, i + 1, m, nd, h1, h2, hk => by
    show bindC kindOf ((p, w) :: P.zip vs) m x = _
    unfold bindC
    exact bindC_get (i := i) (List.nodup_cons.mp nd).2 (by simpa using h1) (by simpa using h2) hk
def start (N : List Str) (vs : List V) : St := vs.map some ++ List.replicate (N.length - vs.length) none
def cxOf (CX : CXT) (P : Program) (w : World) (K : PySem.W.Frag) (mg : Str → Option Value) (base : Heap) (N : List Str) (qual : Str) (scope : Scope) (f : Addr) (cd : Value) (A : Around) (outer : List Env) (s : Shared) (H : Hp) (E : XK) : Cx where
  prog := P
  w := w
  K := K
  mg := mg
  base := base
  A := A.deeper (envOfC qual scope s.heap.objs.size f cd)
  N := N
  s_0 := s
  H_0 := H
  env := envOfC qual scope s.heap.objs.size f cd
  outer := outer
  stack := envOfC qual scope s.heap.objs.size f cd :: outer
  ex := []
  calm := true
  fn := fun _ => true
  pn := []
  xe := fun e s' => wpAny (model P w) (A.deeper (envOfC qual scope s.heap.objs.size f cd)) (leaving (envOfC qual scope s.heap.objs.size f cd) e) (fun _ s'' => CX outer H s E e s'') (fun e' s'' => CX outer H s E e' s'') s'
theorem cell_has {sc : Scope} {n : Nat} {x : Str} (h : sc.names.lookup x = some .cell) : ∃ c, (cellsFrom n sc.names []).lookup x = some c := by
  have q := PySem.W.cellsFrom_some sc.names n [] (.inl h)
  exact Option.isSome_iff_exists.mp q
theorem inv_start {CX : CXT} {P : Program} {w : World} {K : PySem.W.Frag} {mg : Str → Option Value} {base : Heap} {N ps : List Str} {qual : Str} {scope : Scope} {f : Addr} {cd : Value} {A : Around} {outer : List Env} {s s1 : Shared} {H : Hp} {E : XK} {us : List Value} {vs : List V}
    (S : FnScope N ps scope) (hd : A.handled = none) (e0 : Env0 P w K mg base A outer s H) (hl : vs.length = ps.length) (r : Vals vs us)
    (x : InCallC s s.heap.objs.size (bindL (envOfC qual scope s.heap.objs.size f cd).kindOf (ps.zip us) fun _ => none) (cellsFrom (s.heap.objs.size + 1) scope.names []) (bindC (envOfC qual scope s.heap.objs.size f cd).kindOf (ps.zip us) fun _ => none) s1) :
    Inv (cxOf CX P w K mg base N qual scope f cd A outer s H E) [] (start N vs) H s1 := by
  have hpl : ps.length ≤ N.length := by have := congrArg List.length S.pre; rw [List.length_take] at this; omega
  obtain ⟨h1, tk, rfl, hk⟩ := x.done
  have noA : ∀ b : Addr, b ∉ (cxOf CX P w K mg base N qual scope f cd A outer s H E).ex := fun b z => absurd (show b ∈ ([] : List Addr) from z) (by simp)
  refine ⟨⟨e0.mod, S.kind, rfl, rfl, Nat.le_refl _, fun y z c h1 h2 => ?_, fun y hy => ?_, fun y c _ h => ?_, fun _ => hd, Around.frames_deeper e0.frames, .inr ⟨rfl, rfl⟩, fun b z => absurd z (noA b), e0.bs, e0.bsz, fun b _ _ => noA b, fun b z => absurd z (noA b), e0.funs, e0.frf⟩,
    rfl, e0.bare, Un.kept hk, ⟨_, x.toInCall.ns, fun i y v h1 h2 h3 => ?_⟩, fun y c h => ⟨_, x.cell y c h⟩, e0.hok.fresh (Nat.le_refl _), fun y c h => ?_, fun p hp => absurd (show p ∈ ([] : List (Addr × Obj)) from hp) (by simp), e0.hok.kept hk, ?_⟩
  · exact name_of_addr x.apart (PySem.mem_of_lookup h1) (PySem.mem_of_lookup h2)
  · have hy : scope.names.lookup y = some .cell ∨ scope.names.lookup y = some .free := hy
    rcases hy with hy | hy
    · exact cell_has hy
    · exact absurd rfl (S.nofree _ (PySem.mem_of_lookup hy))
  · exact Nat.le_of_lt (x.above y c (PySem.mem_of_lookup h))
  · have hi : i < vs.length := by
      unfold start at h2
      by_cases hi : i < vs.length
      · exact hi
      · rw [List.getElem?_append_right (by simpa using hi)] at h2
        rw [List.getElem?_replicate] at h2
        split at h2 <;> cases h2
    have ha : vs[i]? = some v := by
      unfold start at h2
      rw [List.getElem?_append_left (by simpa using hi), List.getElem?_map] at h2
      cases e : vs[i]? with
      | none => rw [e] at h2; cases h2
      | some a => rw [e] at h2; cases h2; rfl
    obtain ⟨u, hu, rv⟩ := r.get ha
    have hp : ps[i]? = some y := by
      rw [← S.pre, List.getElem?_take_of_lt (by omega)]; exact h1
    have ndP : ps.Nodup := by rw [← S.pre]; exact S.nd.sublist (List.take_sublist _ _)
    refine ⟨u, rv, ?_⟩
    rcases S.par y (List.mem_of_getElem? hp) with k | k
    · exact .inl ⟨k, bindL_get ndP hp hu k⟩
    · obtain ⟨c, e⟩ := cell_has (n := s.heap.objs.size + 1) k
      refine .inr ⟨.inl k, c, e, ?_⟩
      have q := x.cell y c e
      rw [bindC_get ndP hp hu (by show scope.names.lookup y ≠ _; rw [k]; decide)] at q
      exact q
  · exact e0.hok.fresh (Nat.le_of_lt (x.above y c (PySem.mem_of_lookup h)))
  · unfold start
    show _ = N.length
    rw [List.length_append, List.length_map, List.length_replicate]
    omega
theorem fn_of {CX : CXT} {P : Program} {w : World} {K : PySem.W.Frag} {mg : Str → Option Value} {base : Heap} {k : Nat} {f : Addr} {name qual : Str} {params : Arguments} {body : List Stmt} {scope : Scope} {dV kV doc pm cdv ct oc : Value} {an od : Option Addr}
    {osl : Array (Option Value)} {N ps : List Str} {sp : Sp} (lk : K.lookup f = some ⟨oc, od, .func (PySem.W.fnOf name qual params body scope dV kV doc pm an cdv ct), osl⟩) (hcd : PySem.W.codeIn K cdv qual = true) (S : FnScope N ps scope)
    (len : ∀ vs H Q E, sp vs H Q E → vs.length = ps.length)
    (hbody : ∀ (A : Around) (outer : List Env) (s : Shared) (H : Hp) (vs : List V) (Q : VK) (E : XK), Room k (A.deeper (envOfC qual scope s.heap.objs.size f cdv)) → sp vs H Q E →
      ∃ t, PSs (cxOf CX P w K mg base N qual scope f cdv A outer s H E) body t ∧ t { nx := fun _ H' => Q .non H', rt := Q } (start N vs) H) :
    FnOk P w K mg base CX (k + 1) f (PySem.W.fnOf name qual params body scope dV kV doc pm an cdv ct) ps sp := by
  refine ⟨len, fun A outer s H args us vs Q E hr e0 hb r hsp => ?_⟩
  have hl := len _ _ _ _ hsp
  have KX : K.In s.heap := e0.mod.kin.keeps fun b o e => (e0.bs b o e).1
  have lim : s.heap.NoLimit := e0.mod.nolimit.keeps fun b o e => (e0.bs b o e).1
  have hkind : ∀ y ∈ ps.zip us, scope.names.lookup y.1 = some .local ∨ (scope.names.lookup y.1 = some .cell ∧ ((cellsFrom (s.heap.objs.size + 1) scope.names []).lookup y.1).isSome = true) := fun ⟨n, v⟩ hy => by
    rcases S.par n (List.of_mem_zip hy).1 with q | q
    · exact .inl q
    · exact .inr ⟨q, PySem.W.cellsFrom_some _ _ _ (.inl q)⟩
  refine codeAny_call_function hr.depth (KX _ _ lk) rfl S.co S.gen rfl (PySem.W.codeRec_of KX hcd) (hb _ _ _ _ ?_)
  refine wpAny_newFunctionEnv_cells S.kind hkind fun env he s1 x => ?_
  subst he
  refine ⟨lim.keeps x.toInCall.keep, codeAny_func ?_⟩
  obtain ⟨t, ht, hq⟩ := hbody A outer s H vs Q E (hr.deeper _) hsp
  have I : Inv (cxOf CX P w K mg base N qual scope f cdv A outer s H E) [] (start N vs) H s1 := inv_start S hr.hd e0 hl r x
  refine wpAny_mono (ht [] s1 (start N vs) H _ I hq) (fun fl s' hs => ?_) fun e s' hs => hs
  have fin : ∀ {σ' : St} {H' : Hp} {v : V} {u : Value}, Inv (cxOf CX P w K mg base N qual scope f cdv A outer s H E) [] σ' H' s' → RelV v u → Q v H' → CE outer P w H s Q u s' :=
    fun {σ' H' v u} J rv q => ⟨v, H', J.os, J.bare, J.base, J.hok, rv, q⟩
  cases fl with
  | ret u =>
    obtain ⟨v, σ', H', J, rv, q⟩ := hs
    exact fin J rv q
  | next =>
    obtain ⟨σ', H', J, q⟩ := hs
    exact fin (v := V.non) (u := Value.none) J rfl q
  | brk =>
    obtain ⟨_, _, _, q⟩ := hs
    exact False.elim q
  | cont =>
    obtain ⟨_, _, _, q⟩ := hs
    exact False.elim q
end L2
namespace L2
open PySem PySem.Spec PyProof.Rows
section
variable {X : Cx} {x : Str} {p pos : Pos} {e : Expr} {es : List Expr} {t : TA} {id T : String} {r : List V → Hp → VK → Prop}
def tCB (r : List V → Hp → VK → Prop) (t : TA) : TE := fun σ H Q => t σ H fun vs H1 => r vs H1 Q
theorem pe_callB (hc : CallR X (.builtin id) r) (hg : Gl X x) (hm : X.mg x = none) (hv : bootBuiltins x = some (.builtin id)) (ha : PA X (e :: es) t) (hn : x ≠ "__name__" := by decide) (hdb : (x == ("__debug__" : Str)) = false := by decide)
    (he : starEach (e :: es) X.env = (false, eval e X.env) :: starEach es X.env := by rfl) (hpl : (backTo pos (starEach es X.env)).any (·.1) = false := by rfl) : PE X (.Call (.Name x p) (e :: es) [] pos) (tCB r t) := by
  intro pins s σ H Q I h
  refine wpAny_Call_Name_kw (ld_blt I hg hm hv ?_ hn hdb)
  exact PyProof.Rows.callWith_builtin1 (thn (ha pos pins s σ H _ I h) fun us s1 ⟨vs, H1, I1, r1, q1⟩ => hc pins s1 σ H1 vs us Q I1 r1 q1) he hpl
theorem pe_callTy (hc : CallR X (.type T) r) (hg : Gl X x) (hm : X.mg x = none) (hv : bootBuiltins x = some (.type T)) (ha : PA X (e :: es) t) (hn : x ≠ "__name__" := by decide) (hdb : (x == ("__debug__" : Str)) = false := by decide)
    (he : starEach (e :: es) X.env = (false, eval e X.env) :: starEach es X.env := by rfl) (hpl : (backTo pos (starEach es X.env)).any (·.1) = false := by rfl) : PE X (.Call (.Name x p) (e :: es) [] pos) (tCB r t) := by
  intro pins s σ H Q I h
  refine wpAny_Call_Name_kw (ld_blt I hg hm hv ?_ hn hdb)
  exact PyProof.Rows.callWith_type1 (thn (ha pos pins s σ H _ I h) fun us s1 ⟨vs, H1, I1, r1, q1⟩ => hc pins s1 σ H1 vs us Q I1 r1 q1) he hpl
end
end L2
namespace HT
open PySem PyProof.Rows
section
open PySem.SeqAt
open PySem.AutoSeq1 (wpAny_loadPart')
open PySem.MeetsSeq PySem.MeetsSeq2 PySem.MeetsSeq3
end
section
variable {prog : Program} {w : World} {A : Around} {E : Value → Shared → Prop} {s : Shared}
def sIx (n d : Nat) : Option Int → Nat
  | none => d
  | some v => if v < 0 then (v + (n : Int)).toNat else min v.toNat n
end
end HT
namespace L2
open PySem PySem.Spec PyProof.Rows
abbrev TO := St → Hp → (Option Int → Hp → Prop) → Prop
def PO (X : Cx) (e : Option Expr) (t : TO) : Prop :=
  ∀ (pins : List (Addr × Obj)) (s : Shared) (σ : St) (H : Hp) (Q : Option Int → Hp → Prop), Inv X pins σ H s → t σ H Q →
    wpAny (model X.prog X.w) X.A (evalPart e X.env) (fun u s' => ∃ o H', Inv X pins σ H' s' ∧ IsPart u o ∧ Q o H') X.xe s
def tNoPart : TO := fun _ H Q => Q none H
def tPart (t : TE) : TO := fun σ H Q => t σ H fun x H1 => ∃ i, x = .int i ∧ Q (some i) H1
section
variable {X : Cx} {e : Expr} {te : TE} {lo hi : Option Expr} {tl th : TO} {pos p2 : Pos}
theorem po_some (h : PE X e te) : PO X (some e) (tPart te) := by
  intro pins s σ H Q I hw
  rw [evalPart_some]
  refine thn (h pins s σ H _ I hw) fun u s1 ⟨x, H1, I1, r1, q1⟩ => ?_
  obtain ⟨i, rfl, q⟩ := q1
  obtain ⟨t, rfl⟩ := r1
  exact ⟨some i, H1, I1, .int i t, q⟩
def SlR (X : Cx) (r : V → Option Int → Option Int → Hp → VK → Prop) : Prop :=
  ∀ (pins : List (Addr × Obj)) (s : Shared) (σ : St) (H : Hp) (x : V) (v vl vu : Value) (lo hi : Option Int) (sl : Addr) (Q : VK), Inv X pins σ H s → RelV x v → s.heap.IsSliceOf sl vl vu .none → IsPart vl lo → IsPart vu hi → r x lo hi H Q →
    ∃ T id, typeLookup (.type T) "__getitem__" = pure (some (.builtin id)) ∧ s.TypeIs v T ∧ wpAny (model X.prog X.w) X.A (getItem v (.ref sl)) (EP X pins σ Q) X.xe s
theorem SlR.or {r r' : V → Option Int → Option Int → Hp → VK → Prop} (h : SlR X r) (h' : SlR X r') : SlR X (fun x lo hi H Q => r x lo hi H Q ∨ r' x lo hi H Q) := by
  intro pins s σ H x v vl vu lo hi sl Q I rx hs pl pu q
  rcases q with q | q
  · exact h pins s σ H x v vl vu lo hi sl Q I rx hs pl pu q
  · exact h' pins s σ H x v vl vu lo hi sl Q I rx hs pl pu q
def tSl (r : V → Option Int → Option Int → Hp → VK → Prop) (te : TE) (tl th : TO) : TE := fun σ H Q => te σ H fun x H1 => tl σ H1 fun l H2 => th σ H2 fun u H3 => r x l u H3 Q
theorem pe_slice {r : V → Option Int → Option Int → Hp → VK → Prop} (hr : SlR X r) (he : PE X e te) (hl : PO X lo tl) (hu : PO X hi th) : PE X (.Subscript e (.Slice lo hi none p2) pos) (tSl r te tl th) := by
  intro pins s σ H Q I h
  refine Subscript_ (thn (he pins s σ H _ I h) fun v s1 ⟨x, H1, I1, r1, q1⟩ => ?_)
  refine wpAny_Slice (thn (hl pins s1 σ H1 _ I1 q1) fun vl s2 ⟨l, H2, I2, pl, q2⟩ => thn (hu pins s2 σ H2 _ I2 q2) fun vu s3 ⟨u, H3, I3, pu, q3⟩ => ?_)
  rw [evalPart_none]
  refine wpAny_pure ?_
  have I4 : Inv X pins σ H3 { s3 with heap := s3.heap.push { cls := .type "slice", data := .fields #[vl, vu, .none] } } := I3.kept (t' := s3.toks) fun b ob q => Heap.get?_push_of_some _ q
  obtain ⟨T, id, hT, ht, hg⟩ := hr pins { s3 with heap := s3.heap.push { cls := .type "slice", data := .fields #[vl, vu, .none] } } σ H3 x v vl vu l u s3.heap.objs.size Q I4 r1 (Heap.IsSliceOf.new ..) pl pu q3
  show wpAny (model X.prog X.w) X.A (subscriptTail e (.Slice lo hi none p2) v (.ref s3.heap.objs.size)) (EP X pins σ Q) X.xe { s3 with heap := s3.heap.push { cls := .type "slice", data := .fields #[vl, vu, .none] } }
  exact tail_any (ops := [.ref s3.heap.objs.size, v]) ht hT hg (by with_unfolding_all rfl)
def cutV (xs : List V) (lo hi : Option Int) : List V := (xs.drop (HT.sIx xs.length 0 lo)).take (HT.sIx xs.length xs.length hi - HT.sIx xs.length 0 lo)
theorem cutV_length (xs : List V) (lo hi : Option Int) : (cutV xs lo hi).length ≤ xs.length := by
  unfold cutV
  rw [List.length_take, List.length_drop]
  omega
end
end L2
namespace L2
open PySem PySem.Spec PyProof.Rows
def ixN (n : Nat) (i : Int) : Option Nat := if 0 ≤ i then (if i < n then some i.toNat else none) else if -(n : Int) ≤ i then some (i + n).toNat else none
def atI {α : Type} (xs : List α) (i : Int) : Option α := (ixN xs.length i).bind fun j => xs[j]?
theorem ixN_seq {n : Nat} {i : Int} {j : Nat} (h : ixN n i = some j) : seqIndex? i n = some j ∧ j < n ∧ -(n : Int) ≤ i ∧ i < n := by
  unfold ixN at h
  by_cases h0 : 0 ≤ i
  · rw [if_pos h0] at h
    by_cases h1 : i < n
    · rw [if_pos h1] at h
      have e : i.toNat = j := Option.some.inj h
      exact ⟨by rw [seqIndex_of h0 h1, e], by omega, by omega, h1⟩
    · rw [if_neg h1] at h; cases h
  · rw [if_neg h0] at h
    by_cases h1 : -(n : Int) ≤ i
    · rw [if_pos h1] at h
      have e : (i + n).toNat = j := Option.some.inj h
      exact ⟨by rw [seqIndex_neg (by omega) h1, e], by omega, h1, by omega⟩
    · rw [if_neg h1] at h; cases h
theorem atI_get {α : Type} {xs : List α} {i : Int} {v : α} (h : atI xs i = some v) : ∃ j, seqIndex? i xs.length = some j ∧ xs[j]? = some v ∧ j < xs.length ∧ -(xs.length : Int) ≤ i ∧ i < xs.length := by
  unfold atI at h
  cases e : ixN xs.length i with
  | none => rw [e] at h; cases h
  | some j =>
    rw [e] at h
    obtain ⟨h1, h2, h3, h4⟩ := ixN_seq e
    exact ⟨j, h1, h, h2, h3, h4⟩
theorem atI_nat {α : Type} {xs : List α} {j : Nat} {v : α} (h : xs[j]? = some v) : atI xs (j : Int) = some v := by
  have hj : j < xs.length := (List.getElem?_eq_some_iff.mp h).1
  have e : ixN xs.length (j : Int) = some j := by
    unfold ixN
    rw [if_pos (by omega), if_pos (by omega)]; simp
  unfold atI; rw [e]; exact h
def PlainIx (b : Expr) : Prop := ∀ o i, subscripted b false o i = operate [o, i] (getItem o i)
def IxR (X : Cx) (r : R2) : Prop :=
  ∀ (value slice : Expr) (pins : List (Addr × Obj)) (s : Shared) (σ : St) (H : Hp) (x y : V) (v u : Value) (Q : VK), Inv X pins σ H s → RelV x v → RelV y u → r x y H Q →
    subscripted slice false v u = operate [v, u] (getItem v u) → wpAny (model X.prog X.w) X.A (subscriptTail value slice v u) (EP X pins σ Q) X.xe s
def MtR (X : Cx) (id : String) (r : V → List V → Hp → VK → Prop) : Prop :=
  ∀ (pins : List (Addr × Obj)) (s : Shared) (σ : St) (H : Hp) (x : V) (xs : List V) (v : Value) (us : List Value) (Q : VK), Inv X pins σ H s → RelV x v → Vals xs us → r x xs H Q →
    wpAny (model X.prog X.w) X.A (call (.builtin id) (v :: us)) (EP X pins σ Q) X.xe s
section
variable {X : Cx} {a b : Expr} {ta tb : TE} {pos : Pos}
theorem IxR.or {r r' : R2} (h : IxR X r) (h' : IxR X r') : IxR X (fun x y H Q => r x y H Q ∨ r' x y H Q) := by
  intro value slice pins s σ H x y v u Q I rx ry q hs
  rcases q with q | q
  · exact h value slice pins s σ H x y v u Q I rx ry q hs
  · exact h' value slice pins s σ H x y v u Q I rx ry q hs
theorem MtR.or {id : String} {r r' : V → List V → Hp → VK → Prop} (h : MtR X id r) (h' : MtR X id r') : MtR X id (fun x xs H Q => r x xs H Q ∨ r' x xs H Q) := by
  intro pins s σ H x xs v us Q I rx rs q
  rcases q with q | q
  · exact h pins s σ H x xs v us Q I rx rs q
  · exact h' pins s σ H x xs v us Q I rx rs q
theorem pe_ix {r : R2} (hr : IxR X r) (ha : PE X a ta) (hb : PE X b tb) (hs : PlainIx b) : PE X (.Subscript a b pos) (tOp r ta tb) := by
  intro pins s σ H Q I h
  exact Subscript_ (binT ha hb I h fun v u s2 x y H2 I2 rx ry q => hr a b pins s2 σ H2 x y v u Q I2 rx ry q (hs _ _))
def rIxL (K : PySem.W.Frag) : R2 := fun x y H Q => ∃ p xs i v, x = .ref p ∧ y = .int i ∧ SqL K H p xs ∧ atI xs i = some v ∧ Q v H
def rIxT (K : PySem.W.Frag) : R2 := fun x y H Q => ∃ p xs i v, x = .ref p ∧ y = .int i ∧ SqT K H p xs ∧ atI xs i = some v ∧ Q v H
theorem ix_list : IxR X (rIxL X.K) := by
  intro value slice pins s σ H x y v u Q I rx ry h hs
  obtain ⟨p, xs, i, z, rfl, rfl, hq, he, q⟩ := h
  cases rx
  obtain ⟨t, rfl⟩ := ry
  obtain ⟨its, r, pl, hz⟩ := I.list hq
  obtain ⟨j, h1, h2, h3, h4, h5⟩ := atI_get he
  obtain ⟨w, ew, rw'⟩ := r.get h2
  have hl := r.length
  have hn := line63
  have fin : EP X pins σ Q w s := ⟨z, H, I, rw', q⟩
  by_cases h0 : 0 ≤ i
  · have hj : i.toNat = j := by
      rw [seqIndex_of h0 h5] at h1
      exact Option.some.inj h1
    exact item_listR pl.isList h0 (by omega) (by rw [hj]; simpa using ew) fin hs
  · have hj : (i + (its.toArray.size : Int)).toNat = j := by
      rw [seqIndex_neg (by omega) h4] at h1
      rw [List.size_toArray, ← hl]
      exact Option.some.inj h1
    exact subscriptTail_builtinR (x := w) pl.isList.typeIs slot_list_getitem.lookup
      (wpAny_getItem_list_neg (Q := fun r s' => r = w ∧ EP X pins σ Q r s') pl.isList (by omega) (by rw [List.size_toArray] <;> omega) (by omega) (by rw [hj]; simpa using ew) ⟨rfl, fin⟩) hs
theorem ix_tup : IxR X (rIxT X.K) := by
  intro value slice pins s σ H x y v u Q I rx ry h hs
  obtain ⟨p, xs, i, z, rfl, rfl, hq, he, q⟩ := h
  cases rx
  obtain ⟨t, rfl⟩ := ry
  obtain ⟨its, r, pl, hz⟩ := I.tuple hq
  obtain ⟨j, h1, h2, h3, h4, h5⟩ := atI_get he
  obtain ⟨w, ew, rw'⟩ := r.get h2
  have hl := r.length
  have hn := line63
  have fin : EP X pins σ Q w s := ⟨z, H, I, rw', q⟩
  exact subscriptTail_builtinR (x := w) pl.typeIs slot_tuple_getitem.lookup
    (getItem_tuple (j := j) (Q := fun r s' => r = w ∧ EP X pins σ Q r s') pl (by omega) (by omega) (by rw [List.size_toArray, ← hl]; exact h1) (by simpa using ew) ⟨rfl, fin⟩) hs
theorem mapSeq_set (its : List Value) (n j : Nat) (u : Value) : Obj.mapSeq (·.setIfInBounds j u) { cls := .type "list", data := .seq its.toArray n } = { cls := .type "list", data := .seq (its.set j u).toArray n } := by
  simp [Obj.mapSeq]
theorem Inv.lst {pins : List (Addr × Obj)} {σ : St} {H : Hp} {s : Shared} {p : Addr} {xs : List V} (I : Inv X pins σ H s) (h : H p = some (.lst xs)) :
    ∃ (its : List Value) (n : Nat), Vals xs its ∧ s.heap.get? p = some { cls := .type "list", data := .seq its.toArray n } ∧ xs.length ≤ sizeLine := by
  obtain ⟨z, its, n, r, e⟩ := I.hok p _ h
  exact ⟨its, n, r, e, z⟩
theorem Inv.lstUpd {pins : List (Addr × Obj)} {σ : St} {H : Hp} {s : Shared} {p : Addr} {xs ys : List V} {its its' : List Value} {n n' : Nat} {f : Obj → Obj} (I : Inv X pins σ H s) (h : H p = some (.lst xs))
    (ho : s.heap.get? p = some { cls := .type "list", data := .seq its.toArray n }) (hf : f { cls := .type "list", data := .seq its.toArray n } = { cls := .type "list", data := .seq its'.toArray n' }) (r : Vals ys its') (hz : ys.length ≤ sizeLine) (t : Nat) :
    Inv X pins σ (upd H p (.lst ys)) { s with heap := s.heap.update p f, toks := t } := by
  have e : (s.heap.update p f).get? p = some { cls := .type "list", data := .seq its'.toArray n' } := by
    rw [Heap.get?_update_self f ho (by rw [hf] <;> rfl), hf]
  refine I.write (x := p) (e := p) (by rw [h]; trivial) (.inl rfl) (fun b u hb q => (Heap.get?_update_other _ _ (Ne.symm hb)).trans q) ⟨_, e⟩ ?_
  exact ⟨hz, its', n', r, e⟩
def rSetL : V → V → V → Hp → (Hp → Prop) → Prop := fun o i v H Q => ∃ p xs k j, o = .ref p ∧ i = .int k ∧ H p = some (.lst xs) ∧ ixN xs.length k = some j ∧ Q (upd H p (.lst (xs.set j v)))
theorem set_list : PSet X rSetL := by
  intro pins s σ H o i v ov iv u Q I ro ri rv h
  obtain ⟨p, xs, k, j, rfl, rfl, hp, hj, q⟩ := h
  cases ro
  obtain ⟨t, rfl⟩ := ri
  obtain ⟨its, n, r, ho, hz⟩ := I.lst hp
  obtain ⟨h1, h2, h3, h4⟩ := ixN_seq hj
  have hl := r.length
  have hn := line63
  have I' : Inv X pins σ (upd H p (.lst (xs.set j v))) { s with heap := s.heap.update p (Obj.mapSeq (·.setIfInBounds j u)) } :=
    I.lstUpd hp ho (mapSeq_set its n j u) (r.set rv j) (by rw [List.length_set]; exact hz) s.toks
  by_cases h0 : 0 ≤ k
  · have hk : k.toNat = j := by
      rw [seqIndex_of h0 h4] at h1
      exact Option.some.inj h1
    exact PySem.W.ki_setAt ho h0 (by omega) (by rw [List.size_toArray, ← hl]; exact h4) (by rw [hk]; exact ⟨_, I', q⟩)
  · have hk : (k + (its.toArray.size : Int)).toNat = j := by
      rw [seqIndex_neg (by omega) h3] at h1
      rw [List.size_toArray, ← hl]
      exact Option.some.inj h1
    exact PySem.W.ki_setBack ho (by omega) (by rw [List.size_toArray, ← hl]; exact h3) (by omega) (by rw [hk]; exact ⟨_, I', q⟩)
theorem slice_bounds (lo hi : Option Int) (n : Nat) : (sliceBounds lo hi none n).1 = ((HT.sIx n 0 lo : Nat) : Int) ∧ (sliceBounds lo hi none n).2.1 = ((HT.sIx n n hi : Nat) : Int) ∧ (sliceBounds lo hi none n).2.2 = 1 := by
  refine ⟨?_, ?_, rfl⟩
  · cases lo with
    | none => simp [sliceBounds, HT.sIx]
    | some i =>
      simp only [sliceBounds, HT.sIx, Option.getD_none, show (1 : Int) > 0 by decide, if_true]
      by_cases h : i < 0
      · simp only [h, if_true] <;> omega
      · simp only [h, if_false] <;> omega
  · cases hi with
    | none => simp [sliceBounds, HT.sIx]
    | some i =>
      simp only [sliceBounds, HT.sIx, Option.getD_none, show (1 : Int) > 0 by decide, if_true]
      by_cases h : i < 0
      · simp only [h, if_true] <;> omega
      · simp only [h, if_false] <;> omega
theorem slicePick_cut (its : List Value) (lo hi : Option Int) : slicePick its.toArray lo hi none = ((its.drop (HT.sIx its.length 0 lo)).take (HT.sIx its.length its.length hi - HT.sIx its.length 0 lo)).toArray := by
  obtain ⟨h1, h2, h3⟩ := slice_bounds lo hi its.toArray.size
  unfold slicePick
  rw [h1, h2, h3]
  simp only [sliceRange_one, pick_run, List.size_toArray] <;> rfl
def rSlL (K : PySem.W.Frag) : V → Option Int → Option Int → Hp → VK → Prop := fun x lo hi H Q => ∃ a xs, x = .ref a ∧ SqL K H a xs ∧ ∀ p, H p = none → Q (.ref p) (upd H p (.lst (cutV xs lo hi)))
theorem sl_list : SlR X (rSlL X.K) := by
  intro pins s σ H x v vl vu lo hi sl Q I rx hs pl pu h
  obtain ⟨a, xs, rfl, hx, q⟩ := h
  cases rx
  obtain ⟨its, r, ht, hz⟩ := I.list hx
  have hlen := r.length
  refine ⟨"list", _, slot_list_getitem.lookup, ht.isList.typeIs, ?_⟩
  refine wpAny_getItem_list_slice ht.isList hs pl pu .none (by simp) ?_ (by rw [List.size_toArray] <;> omega)
  rw [slicePick_cut, ← hlen]
  refine ⟨.ref s.heap.objs.size, _, I.laid (t' := s.toks) (o := .lst (cutV xs lo hi)) (fun b ob q => Heap.get?_push_of_some _ q) (Nat.le_refl _) ?_, rfl, q _ (I.hok.fresh (Nat.le_refl _))⟩
  exact ⟨Nat.le_trans (cutV_length xs lo hi) hz, _, 0, (r.drop (HT.sIx xs.length 0 lo)).take (HT.sIx xs.length xs.length hi - HT.sIx xs.length 0 lo), Heap.get?_push_size _ rfl⟩
theorem call_len_seq : CallR X (.builtin "len") (fun xs H Q => ∃ p ys, xs = [.ref p] ∧ (SqL X.K H p ys ∨ SqT X.K H p ys) ∧ Q (.int ys.length) H) := by
  intro pins s σ H xs us Q I r h
  obtain ⟨p, ys, rfl, hq, q⟩ := h
  obtain ⟨u, rfl, rx⟩ := vals1 r
  cases rx
  have hn := line63
  rcases hq with hq | hq
  · obtain ⟨its, r', pl, hz⟩ := I.list hq
    have hlen := r'.length
    exact Calls.call_len_list pl.isList (by simp only [List.size_toArray] <;> omega) ⟨.int ys.length, H, I.tok _, ⟨s.toks + 1, by rw [List.size_toArray, hlen]⟩, q⟩
  · obtain ⟨its, r', pl, hz⟩ := I.tuple hq
    have hlen := r'.length
    exact len_tuple pl (by simp only [List.size_toArray] <;> omega) ⟨.int ys.length, H, I.tok _, ⟨s.toks + 1, by rw [List.size_toArray, hlen]⟩, q⟩
theorem CallR.or {f : Value} {r r' : List V → Hp → VK → Prop} (h : CallR X f r) (h' : CallR X f r') : CallR X f (fun xs H Q => r xs H Q ∨ r' xs H Q) := by
  intro pins s σ H xs us Q I rs q
  rcases q with q | q
  · exact h pins s σ H xs us Q I rs q
  · exact h' pins s σ H xs us Q I rs q
theorem call_tuple_of : CallR X (.type "tuple") (fun xs H Q => ∃ p ys, xs = [.ref p] ∧ ((SqL X.K H p ys ∧ ∀ l, H l = none → Q (.ref l) (upd H l (.tup ys))) ∨ (SqT X.K H p ys ∧ Q (.ref p) H))) := by
  intro pins s σ H xs us Q I r h
  obtain ⟨p, ys, rfl, h⟩ := h
  obtain ⟨u, rfl, rx⟩ := vals1 r
  cases rx
  rcases h with ⟨hq, q⟩ | ⟨hq, q⟩
  · obtain ⟨its, r', pl, hz⟩ := I.list hq
    have hlen := r'.length
    refine call_tuple_list pl.isList (fun h' kp => ?_) (by simp only [List.size_toArray] <;> omega)
    have I1 : Inv X pins σ H { s with heap := h' } := I.kept (t' := s.toks) kp
    have I2 : Inv X pins σ (upd H h'.objs.size (.tup ys)) { s with heap := h'.push { cls := .type "tuple", data := .seq its.toArray } } :=
      I1.laid (t' := s.toks) (fun b o e => Heap.get?_push_of_some _ e) (Nat.le_refl _) (show ObjOk X.prog X.w _ _ _ (.tup ys) from ⟨hz, its, r', IsTup.new _ _⟩)
    exact ⟨.ref h'.objs.size, _, I2, rfl, q _ (I1.hok.fresh (Nat.le_refl _))⟩
  · obtain ⟨its, r', pl, hz⟩ := I.tuple hq
    exact call_tuple_same pl ⟨.ref p, H, I, rfl, q⟩
def tyV (K : PySem.W.Frag) (T : String) (x : V) (H : Hp) : Prop := match x with
  | .str _ => T = "str"
  | .int _ => T = "int"
  | .ref p => (T = "list" ∧ ∃ xs, SqL K H p xs) ∨ (T = "tuple" ∧ ∃ o, K.lookup p = some o ∧ o.cls = .type "tuple" ∧ o.dict = none) ∨
      (T = "dict" ∧ ((∃ kvs, H p = some (.dK kvs)) ∨ ∃ kvs, H p = some (.dT kvs))) ∨ (T = "set" ∧ ∃ S n, H p = some (.set S n))
  | _ => False
theorem tyV_is {pins : List (Addr × Obj)} {σ : St} {H : Hp} {s : Shared} {T : String} {x : V} {v : Value} (I : Inv X pins σ H s) (r : RelV x v) (ty : tyV X.K T x H) :
    s.TypeIs v T ∧ ∀ a, v = .ref a → ∃ ob, s.heap.get? a = some ob ∧ ob.dict = none := by
  cases x with
  | str z =>
    obtain ⟨t, rfl⟩ := r
    cases (show T = "str" from ty)
    exact ⟨typeIs_str s z t, fun _ e => nomatch e⟩
  | int i =>
    obtain ⟨t, rfl⟩ := r
    cases (show T = "int" from ty)
    exact ⟨typeIs_int s i t, fun _ e => nomatch e⟩
  | ref p =>
    cases r
    rcases ty with ⟨rfl, xs, hq⟩ | ⟨rfl, o, hk, hc, hd⟩ | ⟨rfl, hk⟩ | ⟨rfl, S, n, hk⟩
    · obtain ⟨its, _, pl, _⟩ := I.list hq
      refine ⟨pl.isList.typeIs, fun a e => ?_⟩
      cases e
      obtain ⟨o, n, e, c, hd, _⟩ := pl
      exact ⟨o, e, hd⟩
    · refine ⟨⟨o, I.kIn p o hk, hc⟩, fun a e => ?_⟩
      cases e
      exact ⟨o, I.kIn _ o hk, hd⟩
    · have z : ∃ o, s.heap.get? p = some o ∧ o.ExactDict := by
        rcases hk with ⟨kvs, hk⟩ | ⟨kvs, hk⟩
        · obtain ⟨_, _, _, _, o, _, _, e, ex, _⟩ := I.hok p _ hk
          exact ⟨o, e, ex⟩
        · obtain ⟨_, _, _, _, o, _, _, e, ex, _⟩ := I.hok p _ hk
          exact ⟨o, e, ex⟩
      obtain ⟨o, e, ex⟩ := z
      refine ⟨⟨o, e, ex.1⟩, fun a e2 => ?_⟩
      cases e2
      exact ⟨o, e, ex.2.1⟩
    · obtain ⟨o, _, _, _, e, ex, _⟩ := I.hok p _ hk
      refine ⟨⟨o, e, ex.1⟩, fun a e2 => ?_⟩
      cases e2
      exact ⟨o, e, ex.2.1⟩
  | _ => exact False.elim ty
def tBM (K : PySem.W.Frag) (T : String) (r : V → List V → Hp → VK → Prop) (to : TE) (t : TA) : TE := fun σ H Q => to σ H fun x H1 => tyV K T x H1 ∧ t σ H1 fun xs H2 => r x xs H2 Q
variable {o e : Expr} {es : List Expr} {to : TE} {t : TA} {name : Str} {apos cpos : Pos} {T id : String} {r : V → List V → Hp → VK → Prop}
theorem pe_bm (pa : PlainAttrs T) (slot : Slot T name id) (hty : typeOf (.builtin id) = pure (.type "method_descriptor")) (hm : MtR X id r) (ho : PE X o to) (ha : PA X (e :: es) t)
    (hbase : attributeBase o name X.env (eval o X.env) = eval o X.env := by rfl)
    (hfew : ((backTo cpos (starEach (e :: es) X.env)).all (fun x => !x.1) && (backToKw cpos (keywordEach [] X.env)).all (fun x => x.1.isSome)
      && decide ((e :: es).length + ([] : List Keyword).length + (if ([] : List Keyword).isEmpty then 0 else 1) < 30)) = true := by rfl)
    (hline : (apos.endLine == cpos.line) = true := by rfl) (hs : starEach (e :: es) X.env = (false, eval e X.env) :: starEach es X.env := by rfl) (hplain : (backTo cpos (starEach es X.env)).any (·.1) = false := by rfl) :
    PE X (.Call (.Attribute o name apos) (e :: es) [] cpos) (tBM X.K T r to t) := by
  intro pins s σ H Q I h
  refine wpAny_Call_method_late hbase hfew hline rfl (thn (ho pins s σ H _ I h) fun v s1 ⟨x, H1, I1, r1, ty, q1⟩ => ?_)
  obtain ⟨h1, h2⟩ := tyV_is I1 r1 ty
  refine ⟨T, id, pa, slot, hty, h1, h2, ?_⟩
  have hA := ha cpos pins s1 σ H1 _ I1 q1
  rw [hs] at hA ⊢
  refine Calls.callWith_builtin (by show (false || (backTo cpos (starEach es X.env)).any (·.1)) = false; rw [hplain] <;> rfl) (Calls.evalArgs_plain ?_)
  exact thn hA fun us s2 ⟨vs, H2, I2, r2, q2⟩ => hm pins s2 σ H2 x vs v us Q I2 r1 r2 q2
end
end L2
namespace L2
open PySem PySem.Spec PyProof.Rows
def MtM (X : Cx) (id : String) (r : V → List V → Hp → VK → Prop) : Prop :=
  ∀ (pins : List (Addr × Obj)) (s : Shared) (σ : St) (H : Hp) (x : V) (xs : List V) (v : Value) (us : List Value) (Q : VK), Inv X pins σ H s → RelV x v → Vals xs us → r x xs H Q →
    wpAny (model X.prog X.w) X.A (call (.builtin id) (v :: us)) (EP X pins σ Q) X.xe s
theorem Vals.one : ∀ {x : V} {us : List Value}, Vals [x] us → ∃ u, us = [u] ∧ RelV x u
  | _, _, .cons r .nil => ⟨_, rfl, r⟩
theorem Vals.two : ∀ {x y : V} {us : List Value}, Vals [x, y] us → ∃ u v, us = [u, v] ∧ RelV x u ∧ RelV y v
  | _, _, _, .cons r (.cons q .nil) => ⟨_, _, rfl, r, q⟩
theorem Vals.zero : ∀ {us : List Value}, Vals [] us → us = []
  | _, .nil => rfl
theorem Vals.eraseIdx : ∀ {xs : List V} {us : List Value} (i : Nat), Vals xs us → Vals (xs.eraseIdx i) (us.eraseIdx i)
  | _, _, _, .nil => .nil
  | _, _, 0, .cons _ t => t
  | _, _, i + 1, .cons r t => .cons r (Vals.eraseIdx i t)
theorem Vals.rep {xs : List V} {us : List Value} (h : Vals xs us) : ∀ k : Nat, Vals (List.replicate k xs).flatten (List.replicate k us).flatten
  | 0 => .nil
  | k + 1 => by
    rw [List.replicate_succ, List.replicate_succ, List.flatten_cons, List.flatten_cons]
    exact Vals.append h (Vals.rep h k)
theorem len_erase {α : Type} : ∀ (l : List α) (i : Nat), (l.eraseIdx i).length ≤ l.length
  | [], _ => Nat.le_refl _
  | _ :: _, 0 => Nat.le_succ _
  | _ :: r, i + 1 => Nat.succ_le_succ (len_erase r i)
theorem foldl_rep (its : List Value) : ∀ (k : Nat) (acc : List Value),
    List.foldl (fun x1 x2 => x1 ++ x2) acc.toArray (List.replicate k its.toArray) = (acc ++ (List.replicate k its).flatten).toArray
  | 0, acc => by simp
  | k + 1, acc => by
    have e : acc.toArray ++ its.toArray = (acc ++ its).toArray := by simp
    have e2 : (acc ++ its) ++ (List.replicate k its).flatten = acc ++ (List.replicate (k + 1) its).flatten := by
      rw [List.replicate_succ, List.flatten_cons, List.append_assoc]
    rw [← e2, ← foldl_rep its k (acc ++ its), ← e, List.replicate_succ, List.foldl_cons]
section
variable {X : Cx} {pins : List (Addr × Obj)} {σ : St} {H : Hp} {s : Shared} {l b : Addr} {xs ys zs : List V}
theorem Inv.lset {its its' : List Value} {n : Nat} {f : Array Value → Array Value} {t' : Nat} (I : Inv X pins σ H s) (hH : H l = some (.lst xs))
    (e : s.heap.get? l = some { cls := .type "list", data := .seq its.toArray n }) (hf : f its.toArray = its'.toArray) (hv : Vals ys its') (hz : ys.length ≤ sizeLine) :
    Inv X pins σ (upd H l (.lst ys)) { s with heap := s.heap.update l (Obj.mapSeq f), toks := t' } := by
  have q := PySem.IsL.update e f
  rw [hf] at q
  refine I.write (x := l) (e := l) (by rw [hH]; exact trivial) (.inl rfl) (fun b' u hb hu => (Heap.get?_update_other s.heap (Obj.mapSeq f) (Ne.symm hb)).trans hu) ⟨_, q⟩ ?_
  exact ⟨hz, its', _, hv, q⟩
theorem Inv.lnew {its : List Value} {t' : Nat} (I : Inv X pins σ H s) (hv : Vals ys its) (hz : ys.length ≤ sizeLine) :
    Inv X pins σ (upd H s.heap.objs.size (.lst ys)) { s with heap := s.heap.push { cls := .type "list", data := .seq its.toArray }, toks := t' } :=
  I.laid (fun _ _ q => Heap.get?_push_of_some _ q) (Nat.le_refl _) ⟨hz, its, 0, hv, Heap.get?_push_size _ rfl⟩
theorem Inv.fresh (I : Inv X pins σ H s) : H s.heap.objs.size = none := I.hok.fresh (Nat.le_refl _)
theorem Inv.lstM (I : Inv X pins σ H s) (hH : H l = some (.lst xs)) : xs.length ≤ sizeLine ∧ ∃ (its : List Value) (n : Nat), Vals xs its ∧ xs.length = its.length ∧ s.heap.get? l = some { cls := .type "list", data := .seq its.toArray n } := by
  obtain ⟨z, its, n, r, e⟩ := I.hok l _ hH
  exact ⟨z, its, n, r, r.length, e⟩
theorem notLongL {n : Nat} (h : n ≤ sizeLine) : Builtin.List.listTooLong n = false := by
  unfold Builtin.List.listTooLong
  exact decide_eq_false (by omega)
end
section
variable {X : Cx}
def rAppend : V → List V → Hp → VK → Prop := fun x vs H Q => ∃ l xs y, x = .ref l ∧ vs = [y] ∧ H l = some (.lst xs) ∧ xs.length < sizeLine ∧ Q .non (upd H l (.lst (xs ++ [y])))
theorem mt_append : MtM X "list.append" rAppend := by
  intro pins s σ H x vs v us Q I rx rv h
  obtain ⟨l, xs, y, rfl, rfl, hH, hz, q⟩ := h
  cases rx
  obtain ⟨u, rfl, ru⟩ := rv.one
  obtain ⟨z, its, n, r, hl, e⟩ := I.lstM hH
  refine call_meets F.slot_list_append ⟨_, e, rfl⟩ F.entry_list_append (F.args_list_append_2 _ _) (PySem.list_append l its.toArray n u (by rw [List.size_toArray]; omega)) ⟨e, ?_⟩
  refine ⟨.non, _, I.lset (its' := its ++ [u]) hH e (by simp) (r.append (.cons ru .nil)) ?_, rfl, q⟩
  rw [List.length_append, List.length_singleton]
  omega
def rExtend : V → List V → Hp → VK → Prop := fun x vs H Q => ∃ l b xs zs, x = .ref l ∧ vs = [.ref b] ∧ H l = some (.lst xs) ∧ H b = some (.lst zs) ∧ xs.length + zs.length ≤ sizeLine ∧ Q .non (upd H l (.lst (xs ++ zs)))
theorem mt_extend : MtM X "list.extend" rExtend := by
  intro pins s σ H x vs v us Q I rx rv h
  obtain ⟨l, b, xs, zs, rfl, rfl, hH, hB, hz, q⟩ := h
  cases rx
  obtain ⟨u, rfl, ru⟩ := rv.one
  cases ru
  obtain ⟨z, its, n, r, hl, e⟩ := I.lstM hH
  obtain ⟨z2, its2, n2, r2, hl2, e2⟩ := I.lstM hB
  have hsz : its.toArray.size + its2.toArray.size ≤ sizeLine := by rw [List.size_toArray, List.size_toArray]; omega
  have hlong : ¬ (!its.toArray.isEmpty && Builtin.List.listTooLong (its.toArray.size + its2.toArray.size)) = true := by
    rw [notLongL hsz, Bool.and_false]
    exact Bool.false_ne_true
  refine call_meets F.slot_list_extend ⟨_, e, rfl⟩ F.entry_list_extend (F.args_list_extend_2 _ _)
    (AutoSeq1.list_extend_list_list_0 l its.toArray n b its2.toArray n2 hlong (by rw [List.size_toArray]; omega) (by omega)) ⟨e, e2, ?_⟩
  refine ⟨.non, _, I.lset (its' := its ++ its2) hH e (by simp) (r.append r2) ?_, rfl, q⟩
  rw [List.length_append]
  omega
def rPopAt : V → List V → Hp → VK → Prop := fun x vs H Q => ∃ l xs i k y, x = .ref l ∧ vs = [.int i] ∧ H l = some (.lst xs) ∧ -(2 ^ 63) ≤ i ∧ i < 2 ^ 63 ∧ seqIndex? i xs.length = some k ∧ xs[k]? = some y ∧ Q y (upd H l (.lst (xs.eraseIdx k)))
theorem mt_popAt : MtM X "list.pop" rPopAt := by
  intro pins s σ H x vs v us Q I rx rv h
  obtain ⟨l, xs, i, k, y, rfl, rfl, hH, h1, h2, hk, hy, q⟩ := h
  cases rx
  obtain ⟨u, rfl, ru⟩ := rv.one
  obtain ⟨t, rfl⟩ := ru
  obtain ⟨z, its, n, r, hl, e⟩ := I.lstM hH
  obtain ⟨w, hw, rw'⟩ := r.get hy
  refine call_meets F.slot_list_pop ⟨_, e, rfl⟩ F.entry_list_pop (F.args_list_pop_2 _ _)
    (MeetsSeq.list_pop_at l its.toArray n i t k w (fitsIndex_both h1 h2) (by rw [List.size_toArray, ← hl]; exact hk) (by rw [← Array.getElem?_toList]; exact hw) (by rw [List.size_toArray]; omega)) ⟨e, ?_⟩
  refine ⟨y, _, I.lset (its' := its.eraseIdx k) hH e ?_ (r.eraseIdx k) ?_, rw', q⟩
  · show its.toArray.eraseIdxIfInBounds k = (its.eraseIdx k).toArray
    rw [List.eraseIdxIfInBounds_toArray]
  · have := len_erase xs k
    omega
def rCat : R2 := fun x y H Q => ∃ l b xs zs, x = .ref l ∧ y = .ref b ∧ H l = some (.lst xs) ∧ H b = some (.lst zs) ∧ xs.length + zs.length ≤ sizeLine ∧ ∀ p, H p = none → Q (.ref p) (upd H p (.lst (xs ++ zs)))
theorem op_cat : OpR X (binaryOp .Add) rCat := by
  intro pins s σ H x y v u Q I rx ry h
  obtain ⟨l, b, xs, zs, rfl, rfl, hH, hB, hz, q⟩ := h
  cases rx
  cases ry
  obtain ⟨z, its, n, r, hl, e⟩ := I.lstM hH
  obtain ⟨z2, its2, n2, r2, hl2, e2⟩ := I.lstM hB
  refine PySem.P.add_list e e2 ?_ (by rw [List.size_toArray, List.size_toArray]; omega)
  have ea : its.toArray ++ its2.toArray = (its ++ its2).toArray := by simp
  rw [ea]
  exact ⟨.ref _, _, I.lnew (t' := s.toks) (r.append r2) (by rw [List.length_append]; omega), rfl, q _ I.fresh⟩
def rRep : R2 := fun x y H Q => ∃ l k xs, x = .ref l ∧ y = .int k ∧ H l = some (.lst xs) ∧ -(2 ^ 63) ≤ k ∧ k < 2 ^ 63 ∧ xs.length * k.toNat ≤ sizeLine ∧
  ∀ p, H p = none → Q (.ref p) (upd H p (.lst (List.replicate k.toNat xs).flatten))
theorem len_rep {α : Type} (xs : List α) (k : Nat) : (List.replicate k xs).flatten.length = k * xs.length := by
  induction k with
  | zero => simp
  | succ k ih => rw [List.replicate_succ, List.flatten_cons, List.length_append, ih, Nat.succ_mul, Nat.add_comm]
theorem op_rep : OpR X (binaryOp .Mult) rRep := by
  intro pins s σ H x y v u Q I rx ry h
  obtain ⟨l, k, xs, rfl, rfl, hH, h1, h2, hz, q⟩ := h
  cases rx
  obtain ⟨t, rfl⟩ := ry
  obtain ⟨z, its, n, r, hl, e⟩ := I.lstM hH
  have hlen : its.toArray.size * k.toNat ≤ sizeLine := by rw [List.size_toArray, ← hl]; exact hz
  have hcap : ¬ its.toArray.size * k.toNat > (2 ^ 63 - 1) / 8 := by
    have : (sizeLine : Nat) ≤ (2 ^ 63 - 1) / 8 := by decide
    omega
  have hfit : ¬ (!Builtin.List.listFitsIndex k) = true := by
    rw [fitsIndex_both h1 h2]
    exact Bool.false_ne_true
  have hlong : ¬ Builtin.List.listTooLong (its.toArray.size * k.toNat) = true := by
    rw [notLongL hlen]
    exact Bool.false_ne_true
  have hnew : List.foldl (fun x1 x2 => x1 ++ x2) #[] (List.replicate (if its.toArray.isEmpty = true then 0 else k.toNat) its.toArray) = (List.replicate k.toNat its).flatten.toArray := by
    have f0 : ∀ m : Nat, List.foldl (fun x1 x2 => x1 ++ x2) #[] (List.replicate m its.toArray) = (List.replicate m its).flatten.toArray := fun m => by
      have := foldl_rep its m []
      rw [List.nil_append] at this
      exact this
    rw [f0]
    cases its with
    | nil => simp
    | cons a r' => rw [if_neg (by simp)]
  refine wpAny_binaryOp_repeat_ref (T := "list") (U := "int") (by decide) ⟨_, e, rfl⟩ (fun s' => typeIs_int s' k t) noFill_list_mul F.fills_int_mul F.slot_int_rmul repeat_list F.slot_int_index.lookup
    (call_meets F.slot_int_rmul (typeIs_int s k t) F.entry_int_rmul (F.args_int_rmul_2 _ _) (int___rmul___int_list k t l its.toArray n)
      ⟨e, rfl, ⟨_, e, rfl⟩, call_meets F.slot_list_mul ⟨_, e, rfl⟩ F.entry_list_mul (F.args_list_mul_2 _ _) (AutoListH.list___mul___list_int_3 l its.toArray n k t hfit hcap hlong) ⟨e, ?_⟩⟩)
  rw [hnew]
  exact ⟨.ref _, _, I.lnew (t' := s.toks) (r.rep k.toNat) (by rw [len_rep, Nat.mul_comm]; exact hz), rfl, q _ I.fresh⟩
end
section
variable {prog : Program} {w : World} {A : Around} {E : Value → Shared → Prop} {s : Shared}
set_option maxRecDepth 100000 in
end
section
variable {X : Cx}
end
end L2
namespace L2
open PySem PySem.Spec PyProof.Rows
theorem Vals.ints : ∀ {ns : List Int} {us : List Value}, Vals (ns.map V.int) us → IntsAre us ns
  | [], us, h => by
    rw [List.map_nil] at h
    cases h
    exact IntsAre.nil
  | n :: ns, us, h => by
    rw [List.map_cons] at h
    cases h with
    | cons r t =>
      obtain ⟨k, rfl⟩ := r
      exact IntsAre.cons n k (Vals.ints t)
theorem Vals.ref1 {a : Addr} {us : List Value} (r : Vals [V.ref a] us) : us = [Value.ref a] := by
  cases r with
  | cons r t =>
    cases t
    cases r
    rfl
section
variable {prog : Program} {w : World} {A : Around} {E : Value → Shared → Prop} {s : Shared} {l : Addr} {its : List Value} {ns : List Int} {Q : Value → Shared → Prop}
theorem sum_raw (hh : A.handled = none) (hl : s.heap.IsList l its.toArray) (hi : IntsAre its ns)
    (h : ∀ h' tk t', (∀ b o, s.heap.get? b = some o → h'.get? b = some o) → Q (.int ns.sum t') { s with heap := h', toks := tk }) : wpAny (model prog w) A (call (.builtin "sum") [.ref l]) Q E s := by
  obtain ⟨xs, e⟩ := hi.allInts.items
  have hn : numsOf (intItems xs).toList = ns := by rw [← e]; exact hi.numsOf
  rw [nums_intItems] at hn
  rw [e] at hl
  refine PySem.sum_intListG hh hl fun h' tk t' hk => ?_
  have := h h' tk t' hk
  rw [preSum_eq, List.take_of_length_le (by simp), hn]; exact this
theorem max_raw (hh : A.handled = none) (hl : s.heap.IsList l its.toArray) (hi : IntsAre its ns) (hne : 0 < ns.length)
    (h : ∀ h' tk M t', (∀ b o, s.heap.get? b = some o → h'.get? b = some o) → M ∈ ns → (∀ a, a ∈ ns → a ≤ M) → Q (.int M t') { s with heap := h', toks := tk }) : wpAny (model prog w) A (call (.builtin "max") [.ref l]) Q E s := by
  obtain ⟨xs, e⟩ := hi.allInts.items
  have hn : numsOf (intItems xs).toList = ns := by rw [← e]; exact hi.numsOf
  rw [nums_intItems] at hn
  subst hn
  rw [e] at hl
  have hsz : 0 < xs.size := by simpa using hne
  refine PySem.max_intList hh hl hsz fun v h' tk hv hk => ?_
  obtain ⟨t, rfl⟩ := intItems_at hv
  obtain ⟨h1, h2⟩ := argBest_gt (numAt xs) (xs.size - 1)
  refine h h' tk _ t hk ?_ fun a ha => ?_
  · rw [numAt_eq]; exact PySem.getD_mem (by rw [List.length_map, Array.length_toList]; omega)
  · obtain ⟨j, hj, rfl⟩ := mem_getD ha
    rw [List.length_map, Array.length_toList] at hj
    rw [← numAt_eq]; exact h2 j (by omega)
end
section
variable {X : Cx}
def rSum (K : PySem.W.Frag) : List V → Hp → VK → Prop := fun vs H Q => ∃ (a : Addr) (ns : List Int), vs = [V.ref a] ∧ SqL K H a (ns.map V.int) ∧ Q (.int ns.sum) H
def rMax (K : PySem.W.Frag) : List V → Hp → VK → Prop := fun vs H Q => ∃ (a : Addr) (ns : List Int), vs = [V.ref a] ∧ SqL K H a (ns.map V.int) ∧ 0 < ns.length ∧ ∀ m, m ∈ ns → (∀ y, y ∈ ns → y ≤ m) → Q (.int m) H
theorem cr_sum (hc : X.calm = true) : CallR X (.builtin "sum") (rSum X.K) := by
  intro pins s σ H vs us Q I r h
  obtain ⟨a, ns, rfl, hs, q⟩ := h
  obtain ⟨its, rv, hl, _⟩ := I.list hs
  rw [Vals.ref1 r]
  exact sum_raw (I.ok.hd hc) hl.isList rv.ints fun h' tk t' hk => ⟨.int _, H, I.kept hk, ⟨_, rfl⟩, q⟩
theorem cr_max (hc : X.calm = true) : CallR X (.builtin "max") (rMax X.K) := by
  intro pins s σ H vs us Q I r h
  obtain ⟨a, ns, rfl, hs, hne, q⟩ := h
  obtain ⟨its, rv, hl, _⟩ := I.list hs
  rw [Vals.ref1 r]
  exact max_raw (I.ok.hd hc) hl.isList rv.ints hne fun h' tk m t' hk h1 h2 => ⟨.int _, H, I.kept hk, ⟨_, rfl⟩, q m h1 h2⟩
end
section
variable {X : Cx}
end
section
variable {X : Cx}
end
section
variable {X : Cx}
end
mutual
inductive Dp (K : PySem.W.Frag) (H : Hp) : V → PyData → Prop
  | non : Dp K H .non .none
  | bl (b : Bool) : Dp K H (.bl b) (.bool b)
  | int (i : Int) : Dp K H (.int i) (.int i)
  | str (x : Str) : Dp K H (.str x) (.str x)
  | lst {a : Addr} {xs : List V} {ds : List PyData} : SqL K H a xs → DpAll K H xs ds → Dp K H (.ref a) (.list ds)
  | tup {a : Addr} {xs : List V} {ds : List PyData} : SqT K H a xs → DpAll K H xs ds → Dp K H (.ref a) (.tuple ds)
inductive DpAll (K : PySem.W.Frag) (H : Hp) : List V → List PyData → Prop
  | nil : DpAll K H [] []
  | cons {v : V} {vs : List V} {d : PyData} {ds : List PyData} : Dp K H v d → DpAll K H vs ds → DpAll K H (v :: vs) (d :: ds)
end
section
variable {X : Cx} {pins : List (Addr × Obj)} {σ : St} {H : Hp} {s : Shared}
mutual
theorem Dp.reads (I : Inv X pins σ H s) : ∀ (d : PyData) (v : V) (u : Value), Dp X.K H v d → RelV v u → ∃ as, Reads s.heap u d as
  | .none, _, _, h, r => by
    cases h
    cases r
    exact ⟨_, Reads.none⟩
  | .bool b, _, _, h, r => by
    cases h
    cases r
    exact ⟨_, Reads.bool b⟩
  | .int i, _, _, h, r => by
    cases h
    obtain ⟨t, rfl⟩ := r
    exact ⟨_, Reads.int i t⟩
  | .str x, _, _, h, r => by
    cases h
    obtain ⟨t, rfl⟩ := r
    exact ⟨_, Reads.str x t⟩
  | .list ds, _, _, h, r => by
    cases h with
    | lst hs ha =>
      cases r
      obtain ⟨its, rv, ⟨o, n, ho, hc, _, hd⟩, _⟩ := I.list hs
      obtain ⟨as, hr⟩ := Dp.readsAll I ds _ its ha rv
      exact ⟨_, Reads.list ho hc hd hr⟩
  | .tuple ds, _, _, h, r => by
    cases h with
    | tup hs ha =>
      cases r
      obtain ⟨its, rv, ⟨o, ho, hc, n, hd⟩, _⟩ := I.tuple hs
      obtain ⟨as, hr⟩ := Dp.readsAll I ds _ its ha rv
      exact ⟨_, Reads.tuple ho hc hd hr⟩
  | .dict _, _, _, h, _ => by cases h
theorem Dp.readsAll (I : Inv X pins σ H s) : ∀ (ds : List PyData) (vs : List V) (us : List Value), DpAll X.K H vs ds → Vals vs us → ∃ as, ReadsAll s.heap us ds as
  | [], _, _, h, r => by
    cases h
    cases r
    exact ⟨_, ReadsAll.nil⟩
  | d :: ds, _, _, h, r => by
    cases h with
    | cons h1 h2 =>
      cases r with
      | cons r1 r2 =>
        obtain ⟨as, q1⟩ := Dp.reads I d _ _ h1 r1
        obtain ⟨bs, q2⟩ := Dp.readsAll I ds _ _ h2 r2
        exact ⟨_, ReadsAll.cons q1 q2⟩
end
end
section
variable {X : Cx}
end
end L2
namespace L2
open PySem PySem.Spec PyProof.Rows
abbrev CellAt (h : Heap) (c : Addr) (v : Option Value) : Prop := h.IsCell c v
def relS (scope sc : Scope) : Scope :=
  { scope with names := scope.names.map fun (n, k) => if (k == .free && sc.kind == .function && sc.names.lookup n == some .cell) then (n, .cell) else (n, k) }
def cloFrom (cells : List (Str × Addr)) : List (Str × NameKind) → List (Str × Addr) → List (Str × Addr)
  | [], acc => acc
  | (n, k) :: r, acc => if k == .free then cloFrom cells r ((n, (cells.lookup n).getD 0) :: acc) else cloFrom cells r acc
theorem closure_loop (env : Env) (f : Str × NameKind → List (Str × Addr) → Sem (ForInStep (List (Str × Addr))))
    (hf : ∀ n k c, f (n, k) c = if k == .free then (do let a ← cellOf env n; pure (.yield ((n, a) :: c))) else pure (.yield c)) :
    ∀ (names : List (Str × NameKind)) (acc : List (Str × Addr)), (∀ y ∈ names, y.2 = .free → ∃ c, env.cells.lookup y.1 = some c) → forIn names acc f = pure (cloFrom env.cells names acc)
  | [], acc, _ => by rw [List.forIn_nil]; rfl
  | (n, k) :: r, acc, h => by
    rw [List.forIn_cons, hf]
    have ih := fun acc => closure_loop env f hf r acc fun y hy => h y (List.mem_cons_of_mem _ hy)
    unfold cloFrom
    by_cases hk : (k == NameKind.free) = true
    · rw [if_pos hk, if_pos hk]
      obtain ⟨c, hc⟩ := h (n, k) List.mem_cons_self (by simpa using hk)
      have e : cellOf env n = pure c := by unfold cellOf; rw [hc]
      rw [e]
      have e2 : (env.cells.lookup n).getD 0 = c := by rw [hc]; rfl
      rw [e2]
      exact ih _
    · rw [if_neg hk, if_neg hk]
      exact ih _
theorem closure_ok {scope : Scope} {env : Env} (h : ∀ y ∈ scope.names, y.2 = .free → ∃ c, env.cells.lookup y.1 = some c) : closureFor scope env = pure (cloFrom env.cells scope.names []) := by
  simp only [closureFor]
  rw [closure_loop env _ (fun n k c => rfl) scope.names [] h]
  rfl
theorem mem_lookup {α : Type} : ∀ {l : List (Str × α)} {n : Str} {c : α}, (n, c) ∈ l → ∃ c', l.lookup n = some c'
  | (k, v) :: r, n, c, h => by
    rw [List.lookup_cons]
    cases hb : n == k with
    | true => exact ⟨_, rfl⟩
    | false =>
      rcases List.mem_cons.mp h with e | h
      · cases e; simp at hb
      · exact mem_lookup h
theorem cloFrom_mem {cells : List (Str × Addr)} : ∀ {names : List (Str × NameKind)} {acc : List (Str × Addr)} {n : Str} {c : Addr}, (n, c) ∈ cloFrom cells names acc → (n, c) ∈ acc ∨ ((n, .free) ∈ names ∧ c = (cells.lookup n).getD 0)
  | [], _, _, _, h => .inl h
  | (m, k) :: r, acc, n, c, h => by
    unfold cloFrom at h
    split at h
    · rename_i hk
      have hk : k = .free := by simpa using hk
      rcases cloFrom_mem h with h | ⟨h1, h2⟩
      · rcases List.mem_cons.mp h with e | h
        · cases e; exact .inr ⟨hk ▸ List.mem_cons_self, rfl⟩
        · exact .inl h
      · exact .inr ⟨List.mem_cons_of_mem _ h1, h2⟩
    · rcases cloFrom_mem h with h | ⟨h1, h2⟩
      · exact .inl h
      · exact .inr ⟨List.mem_cons_of_mem _ h1, h2⟩
theorem cloFrom_acc {cells : List (Str × Addr)} : ∀ {names : List (Str × NameKind)} {acc : List (Str × Addr)} {p : Str × Addr}, p ∈ acc → p ∈ cloFrom cells names acc
  | [], _, _, h => h
  | (m, k) :: r, acc, p, h => by
    unfold cloFrom
    split
    · exact cloFrom_acc (List.mem_cons_of_mem _ h)
    · exact cloFrom_acc h
theorem cloFrom_has {cells : List (Str × Addr)} : ∀ {names : List (Str × NameKind)} {acc : List (Str × Addr)} {n : Str}, (n, .free) ∈ names → (n, (cells.lookup n).getD 0) ∈ cloFrom cells names acc
  | (m, k) :: r, acc, n, h => by
    unfold cloFrom
    rcases List.mem_cons.mp h with e | h
    · cases e
      exact cloFrom_acc List.mem_cons_self
    · split
      · exact cloFrom_has h
      · exact cloFrom_has h
theorem cells_mem : ∀ {names : List (Str × NameKind)} {h : Heap} {acc : List (Str × Addr)} {x : Str} {c : Addr}, (x, c) ∈ cellsFrom h.objs.size names acc →
    (x, c) ∈ acc ∨ ((x, .cell) ∈ names ∧ h.objs.size ≤ c ∧ CellAt (pushCells h names) c none)
  | [], _, _, _, _, h => .inl h
  | (n, k) :: r, h, acc, x, c, hm => by
    unfold cellsFrom at hm
    unfold pushCells
    split at hm
    · rename_i hk
      rw [if_pos hk]
      have hk : k = .cell := by simpa using hk
      rw [← Heap.size_push h { cls := .type "cell", data := .cell none }] at hm
      rcases cells_mem hm with hm | ⟨h1, h2, h3⟩
      · rcases List.mem_cons.mp hm with e | hm
        · cases e
          exact .inr ⟨hk ▸ List.mem_cons_self, Nat.le_refl _, _, pushCells_keeps r _ _ _ (Heap.get?_push_size _ rfl), rfl⟩
        · exact .inl hm
      · rw [Heap.size_push] at h2
        exact .inr ⟨List.mem_cons_of_mem _ h1, Nat.le_of_succ_le h2, h3⟩
    · rename_i hk
      rw [if_neg hk]
      rcases cells_mem hm with hm | ⟨h1, h2, h3⟩
      · exact .inl hm
      · exact .inr ⟨List.mem_cons_of_mem _ h1, h2, h3⟩
theorem cells_acc : ∀ {names : List (Str × NameKind)} {n : Nat} {acc : List (Str × Addr)} {p : Str × Addr}, p ∈ acc → p ∈ cellsFrom n names acc
  | [], _, _, _, h => h
  | (m, k) :: r, n, acc, p, h => by
    unfold cellsFrom
    split
    · exact cells_acc (List.mem_cons_of_mem _ h)
    · exact cells_acc h
theorem cells_has : ∀ {names : List (Str × NameKind)} {n : Nat} {acc : List (Str × Addr)} {x : Str}, (x, .cell) ∈ names → ∃ c, (x, c) ∈ cellsFrom n names acc
  | (m, k) :: r, n, acc, x, h => by
    unfold cellsFrom
    rcases List.mem_cons.mp h with e | h
    · cases e
      exact ⟨n, cells_acc List.mem_cons_self⟩
    · split
      · exact cells_has h
      · exact cells_has h
theorem cells_inj : ∀ {names : List (Str × NameKind)} {h : Heap} {acc : List (Str × Addr)} {x y : Str} {c : Addr}, (∀ p ∈ acc, p.2 < h.objs.size) → (∀ x y c, (x, c) ∈ acc → (y, c) ∈ acc → x = y) →
    (x, c) ∈ cellsFrom h.objs.size names acc → (y, c) ∈ cellsFrom h.objs.size names acc → x = y
  | [], _, _, _, _, _, _, hi, h1, h2 => hi _ _ _ h1 h2
  | (n, k) :: r, h, acc, x, y, c, hl, hi, h1, h2 => by
    unfold cellsFrom at h1 h2
    split at h1
    · rename_i hk
      rw [if_pos hk] at h2
      rw [← Heap.size_push h { cls := .type "cell", data := .cell none }] at h1 h2
      refine cells_inj (h := h.push _) (fun p hp => ?_) (fun x y c a b => ?_) h1 h2
      · rw [Heap.size_push]
        rcases List.mem_cons.mp hp with rfl | hp
        · exact Nat.lt_succ_self _
        · exact Nat.lt_succ_of_lt (hl p hp)
      · rcases List.mem_cons.mp a with e | a <;> rcases List.mem_cons.mp b with e' | b
        · cases e; cases e'; rfl
        · cases e; exact absurd (hl _ b) (Nat.lt_irrefl _)
        · cases e'; exact absurd (hl _ a) (Nat.lt_irrefl _)
        · exact hi _ _ _ a b
    · rename_i hk
      rw [if_neg hk] at h2
      exact cells_inj hl hi h1 h2
theorem newEnv_comp {M : Model} {A : Around} {E : Value → Shared → Prop} {s : Shared} {scope : Scope} {globals : Addr} {closure : List (Str × Addr)} {qual : Str} {func : Option Addr} {code : Value} {around : Env} {builtins : Addr} {Q : Env → Shared → Prop}
    (h : Q (newEnv scope s.heap.objs.size globals (cellsFrom (s.heap.objs.size + 1) scope.names closure) qual func code (some around) builtins)
      { s with heap := pushCells (s.heap.push { cls := .type "dict", data := .dict #[] }) scope.names }) :
    wpAny M A (newFunctionEnv scope globals closure [] qual func code (some around) builtins) Q E s := by
  simp only [newFunctionEnv, Option.isSome_some, if_true]
  refine wpAny_bind (wpAny_alloc ?_)
  refine wpAny_bind (wpAny_layCells _ (fun n k c => rfl) scope.names closure _ _ ?_)
  rw [show ({ s with heap := s.heap.push { cls := .type "dict", data := .dict #[] } } : Shared).heap.objs.size = s.heap.objs.size + 1 from Heap.size_push ..]
  rw [List.forIn_nil]
  exact wpAny_bind (wpAny_pure (wpAny_pure h))
theorem lookup_relS {sc : Scope} : ∀ {names : List (Str × NameKind)} {x : Str} {k : NameKind},
    (names.map fun (n, k) => if (k == NameKind.free && sc.kind == .function && sc.names.lookup n == some .cell) then (n, NameKind.cell) else (n, k)).lookup x = some k →
    ∃ k', names.lookup x = some k' ∧ (k = k' ∨ (k' = .free ∧ k = .cell))
  | [], _, _, h => by simp at h
  | (n, k₀) :: r, x, k, h => by
    have ih := @lookup_relS sc r x k
    have h' : List.lookup x ((if (k₀ == NameKind.free && sc.kind == .function && sc.names.lookup n == some .cell) = true then (n, NameKind.cell) else (n, k₀)) :: (r.map _)) = some k := h
    cases hx : x == n with
    | true =>
      simp only [List.lookup_cons, hx]
      by_cases hc : (k₀ == NameKind.free && sc.kind == .function && sc.names.lookup n == some .cell) = true
      · rw [if_pos hc] at h'
        simp only [List.lookup_cons, hx] at h'
        cases h'
        simp only [Bool.and_eq_true, beq_iff_eq] at hc
        exact ⟨k₀, rfl, .inr ⟨hc.1.1, rfl⟩⟩
      · rw [if_neg hc] at h'
        simp only [List.lookup_cons, hx] at h'
        cases h'
        exact ⟨_, rfl, .inl rfl⟩
    | false =>
      simp only [List.lookup_cons, hx]
      by_cases hc : (k₀ == NameKind.free && sc.kind == .function && sc.names.lookup n == some .cell) = true
      · rw [if_pos hc] at h'
        simp only [List.lookup_cons, hx] at h'
        exact ih h'
      · rw [if_neg hc] at h'
        simp only [List.lookup_cons, hx] at h'
        exact ih h'
structure BlkOk (N : List Str) (sc scope : Scope) (own : List (Str × Nat)) : Prop where
  kind : scope.kind = .function
  uniq : ∀ y ∈ scope.names, scope.names.lookup y.1 = some y.2
  ix : ∀ p ∈ own, N[p.2]? = some p.1
  free : ∀ y ∈ scope.names, y.2 = .free → sc.names.lookup y.1 = some .cell ∨ sc.names.lookup y.1 = some .free
  own : ∀ y ∈ scope.names, y.2 = .local ∨ y.2 = .cell → y.1 ∈ own.map (·.1) ∨ y.1 ∉ N
def wipe (σ : St) : List Nat → St
  | [] => σ
  | v :: vs => (wipe σ vs).set v none
theorem wipe_length (σ : St) : ∀ vs : List Nat, (wipe σ vs).length = σ.length
  | [] => rfl
  | v :: vs => by unfold wipe; rw [List.length_set, wipe_length σ vs]
theorem wipe_some {σ : St} {i : Nat} {x : V} : ∀ {vs : List Nat}, (wipe σ vs)[i]? = some (some x) → σ[i]? = some (some x) ∧ i ∉ vs
  | [], h => ⟨h, by simp⟩
  | v :: vs, h => by
    unfold wipe at h
    by_cases hi : v = i
    · subst hi
      by_cases hv : v < (wipe σ vs).length
      · rw [List.getElem?_set_self hv] at h; cases h
      · rw [List.getElem?_eq_none (by simpa using hv)] at h; cases h
    · rw [List.getElem?_set_ne hi] at h
      obtain ⟨h1, h2⟩ := wipe_some h
      exact ⟨h1, by simp only [List.mem_cons, not_or]; exact ⟨fun e => hi e.symm, h2⟩⟩
abbrev Cx.blk (X : Cx) (s : Shared) (H : Hp) (scope : Scope) (cenv : Env) (fp : List Addr) : Cx := { X with s_0 := s, H_0 := H, env := cenv, outer := X.stack, ex := fp, fn := fun x => scope.names.lookup x == some .cell, pn := [], xe := fun _ _ => False }
section
variable {X : Cx} {pins : List (Addr × Obj)} {σ : St} {H : Hp} {s : Shared}
theorem block_start {scope : Scope} {own : List (Str × Nat)} {fp : List Addr} (I : Inv X pins σ H s) (ok : BlkOk X.N X.env.scope scope own) (hN : X.N.Nodup) (hfp : ∀ b ∈ fp, FpOk X pins H b ∧ b < s.heap.objs.size) :
    Inv (X.blk s H scope (compEnvC scope (cellsFrom (s.heap.objs.size + 1) scope.names (cloFrom X.env.cells scope.names [])) s.heap.objs.size X.env) fp) [] (wipe σ (own.map (·.2))) H { s with heap := pushCells (s.heap.push { cls := .type "dict", data := .dict #[] }) scope.names } := by
  have hfree : ∀ y ∈ scope.names, y.2 = .free → ∃ c, X.env.cells.lookup y.1 = some c := fun y hy e => by
    rcases ok.free y hy e with k | k
    · exact I.ok.has _ (.inl k)
    · exact I.ok.has _ (.inr k)
  generalize hcenv : compEnvC scope (cellsFrom (s.heap.objs.size + 1) scope.names (cloFrom X.env.cells scope.names [])) s.heap.objs.size X.env = cenv
  have kp : ∀ b o, s.heap.get? b = some o → (pushCells (s.heap.push { cls := .type "dict", data := .dict #[] }) scope.names).get? b = some o := fun b o e => pushCells_keeps _ _ _ _ (Heap.get?_push_of_some _ e)
  have hL : cenv.locals = s.heap.objs.size := by rw [← hcenv]; rfl
  have hcl : cenv.cells = cellsFrom (s.heap.objs.size + 1) scope.names (cloFrom X.env.cells scope.names []) := by rw [← hcenv]; rfl
  have hsc : cenv.scope = relS scope X.env.scope := by rw [← hcenv]; rfl
  rw [← Heap.size_push s.heap { cls := .type "dict", data := .dict #[] }] at hcl
  have cm : ∀ {y c}, (y, c) ∈ cloFrom X.env.cells scope.names [] → X.env.cells.lookup y = some c ∧ c < s.heap.objs.size := fun {y c} hm => by
    rcases cloFrom_mem hm with hm | ⟨h1, rfl⟩
    · cases hm
    · obtain ⟨c, hc⟩ := hfree _ h1 rfl
      rw [hc]
      obtain ⟨w, z⟩ := I.cell _ _ hc
      exact ⟨rfl, z.lt⟩
  have mem : ∀ {y c}, cenv.cells.lookup y = some c → (X.env.cells.lookup y = some c ∧ c < s.heap.objs.size) ∨ (s.heap.objs.size + 1 ≤ c ∧ CellAt (pushCells (s.heap.push { cls := .type "dict", data := .dict #[] }) scope.names) c none) := fun {y c} e => by
    rw [hcl] at e
    rcases cells_mem (PySem.mem_of_lookup e) with hm | ⟨_, h2, h3⟩
    · exact .inl (cm hm)
    · rw [Heap.size_push] at h2; exact .inr ⟨h2, h3⟩
  have look : ∀ {y}, scope.names.lookup y = some .free → ∃ c, cenv.cells.lookup y = some c ∧ X.env.cells.lookup y = some c := fun {y} hl => by
    have hy : (y, NameKind.free) ∈ scope.names := PySem.mem_of_lookup hl
    obtain ⟨c', e'⟩ := mem_lookup (cells_acc (names := scope.names) (n := (s.heap.push { cls := .type "dict", data := .dict #[] }).objs.size) (cloFrom_has (cells := X.env.cells) (acc := []) hy))
    rw [← hcl] at e'
    refine ⟨c', e', ?_⟩
    rw [hcl] at e'
    rcases cells_mem (PySem.mem_of_lookup e') with hm | ⟨h1, _, _⟩
    · exact (cm hm).1
    · have := ok.uniq _ h1
      rw [hl] at this; cases this
  have okB : (X.blk s H scope cenv fp).Ok := by
    refine ⟨I.ok.mod, by show cenv.scope.kind = _; rw [hsc]; exact ok.kind, by show cenv.globals = _; rw [← hcenv]; exact I.ok.glob, by show cenv.builtins = _; rw [← hcenv]; exact I.ok.blt, by show s.heap.objs.size ≤ cenv.locals; rw [hL]; exact Nat.le_refl _,
      fun y z c e1 e2 => ?_, fun y hy => ?_, fun y c z e => ?_, I.ok.hd, I.ok.frames, .inl rfl, fun b hb => ⟨?_, fun y c e z => ?_⟩, I.bs, Nat.le_trans I.ok.bsz I.sz, fun b o e hb => ?_, fun b hb z => ?_, I.stack, I.stkFree⟩
    · have e1 : cenv.cells.lookup y = some c := e1
      have e2 : cenv.cells.lookup z = some c := e2
      rw [hcl] at e1 e2
      refine cells_inj (fun p hp => ?_) (fun y z c a b => I.ok.inj y z c (cm a).1 (cm b).1) (PySem.mem_of_lookup e1) (PySem.mem_of_lookup e2)
      rw [Heap.size_push]
      exact Nat.lt_succ_of_lt (cm (y := p.1) (c := p.2) hp).2
    · show ∃ c, cenv.cells.lookup y = some c
      have key : ∀ k, cenv.kindOf y = some k → (k = .cell ∨ k = .free) → ∃ c, cenv.cells.lookup y = some c := fun k hk hk' => by
        unfold Env.kindOf at hk
        rw [hsc] at hk
        obtain ⟨k', e, r⟩ := lookup_relS hk
        have : k' = .cell ∨ k' = .free := by
          rcases r with rfl | ⟨rfl, _⟩
          · exact hk'
          · exact .inr rfl
        rcases this with rfl | rfl
        · obtain ⟨c, hm⟩ := cells_has (n := (s.heap.push { cls := .type "dict", data := .dict #[] }).objs.size) (acc := cloFrom X.env.cells scope.names []) (PySem.mem_of_lookup e)
          obtain ⟨c', e'⟩ := mem_lookup hm
          exact ⟨c', by rw [hcl]; exact e'⟩
        · obtain ⟨c, h1, _⟩ := look e
          exact ⟨c, h1⟩
      rcases hy with hy | hy
      · exact key _ hy (.inl rfl)
      · exact key _ hy (.inr rfl)
    · have z : (scope.names.lookup y == some NameKind.cell) = true := z
      have z : scope.names.lookup y = some .cell := by simpa using z
      have e : cenv.cells.lookup y = some c := e
      rw [hcl] at e
      rcases cells_mem (PySem.mem_of_lookup e) with hm | ⟨_, h2, _⟩
      · rcases cloFrom_mem hm with hm | ⟨h1, _⟩
        · cases hm
        · have q := ok.uniq _ h1
          rw [z] at q; cases q
      · rw [Heap.size_push] at h2
        exact Nat.le_of_succ_le h2
    · show b ≠ cenv.locals
      rw [hL]; exact Nat.ne_of_lt (hfp b hb).2
    · have e : cenv.cells.lookup y = some c := e
      rcases mem e with ⟨h1, _⟩ | ⟨h1, _⟩
      · exact (hfp b hb).1.2.2.2.2.1 y c h1 z
      · have h2 : s.heap.objs.size + 1 ≤ b := by rw [← z]; exact h1
        exact absurd (Nat.lt_of_lt_of_le (hfp b hb).2 (Nat.le_of_succ_le h2)) (Nat.lt_irrefl _)
    · rcases (hfp b hb).1.2.2.2.1 with z | z
      · exact I.ok.noex b o e z
      · exact absurd (Nat.lt_of_lt_of_le (Heap.lt_size e) (Nat.le_trans I.ok.bsz z)) (Nat.lt_irrefl _)
    · rcases List.mem_cons.mp (I.stkSub b z) with z | z
      · exact (hfp b hb).1.2.1 z
      · exact (hfp b hb).1.2.2.1 z
  refine ⟨okB, rfl, I.bare, Un.kept kp, ⟨fun _ => none, ?_, fun i y av e1 e2 e3 => ?_⟩, fun y c e => ?_, ?_, fun y c e => ?_, fun p hp => ?_, I.hok.kept kp, by rw [wipe_length]; exact I.len⟩
  · show Heap.Ns _ cenv.locals _
    rw [hL]
    exact Heap.Ns.keeps (Heap.Ns.new ..) fun b o e => pushCells_keeps _ _ _ _ e
  · obtain ⟨e2, hne⟩ := wipe_some e2
    have hfr : scope.names.lookup y = some .free ∧ (cenv.kindOf y = some .cell ∨ cenv.kindOf y = some .free) := by
      have key : ∀ k, cenv.scope.names.lookup y = some k → k = .local ∨ k = .cell ∨ k = .free → scope.names.lookup y = some .free ∧ (cenv.kindOf y = some .cell ∨ cenv.kindOf y = some .free) := fun k hk hk' => by
        have hk0 := hk
        rw [hsc] at hk
        obtain ⟨k', e, r⟩ := lookup_relS hk
        have no : ¬ (k' = .local ∨ k' = .cell) := fun hh => by
          rcases ok.own _ (PySem.mem_of_lookup e) hh with e' | e'
          · obtain ⟨p, hp, hpy⟩ := List.mem_map.mp e'
            have e3 := ok.ix p hp
            have : p.1 = y := hpy
            rw [this] at e3
            exact hne (List.mem_map.mpr ⟨p, hp, nodup_ix hN e3 e1⟩)
          · exact e' (List.mem_of_getElem? e1)
        rcases r with rfl | ⟨rfl, rfl⟩
        · rcases hk' with rfl | rfl | rfl
          · exact absurd (.inl rfl) no
          · exact absurd (.inr rfl) no
          · exact ⟨e, .inr hk0⟩
        · exact ⟨e, .inl hk0⟩
      have e3 : Vis cenv.scope y := e3
      rcases e3 with e3 | e3 | e3
      · exact key _ e3 (.inl rfl)
      · exact key _ e3 (.inr (.inl rfl))
      · exact key _ e3 (.inr (.inr rfl))
    obtain ⟨m, hn, hl⟩ := I.loc
    have hvis : Vis X.env.scope y := (ok.free _ (PySem.mem_of_lookup hfr.1) rfl).elim (fun k => .inr (.inl k)) (fun k => .inr (.inr k))
    obtain ⟨w, r, q⟩ := hl i y av e1 e2 hvis
    refine ⟨w, r, .inr ⟨hfr.2, ?_⟩⟩
    obtain ⟨c, h1, h2⟩ := look hfr.1
    rcases q with ⟨k, _⟩ | ⟨_, c', e', z⟩
    · have k : X.env.scope.names.lookup y = some .local := k
      rcases ok.free _ (PySem.mem_of_lookup hfr.1) rfl with k' | k' <;> rw [show X.env.scope.names.lookup y = _ from k'] at k <;> cases k
    · rw [h2] at e'; cases e'
      exact ⟨c, h1, z.keeps kp⟩
  · have e : cenv.cells.lookup y = some c := e
    rcases mem e with ⟨h1, _⟩ | ⟨_, z⟩
    · obtain ⟨w, z⟩ := I.cell y c h1
      exact ⟨w, z.keeps kp⟩
    · exact ⟨_, z⟩
  · show H cenv.locals = none
    rw [hL]; exact I.hok.fresh (Nat.le_refl _)
  · have e : cenv.cells.lookup y = some c := e
    rcases mem e with ⟨h1, _⟩ | ⟨h1, _⟩
    · exact I.freeC y c h1
    · exact I.hok.fresh (Nat.le_of_succ_le h1)
  · exact absurd (show p ∈ ([] : List (Addr × Obj)) ++ [] from hp) (by simp)
theorem app_ok {E : Value → Shared → Prop} {D : Addr} {xs : List V} {y : V} {v : Value} {Q : Value → Shared → Prop} (I : Inv X pins σ H s) (hD : H D = some (.lst xs)) (hz : xs.length < sizeLine) (r : RelV y v)
    (h : ∀ s', Inv X pins σ (upd H D (.lst (xs ++ [y]))) s' → Q .none s') : wpAny (model X.prog X.w) X.A (call (.builtin "list.append") [.ref D, v]) Q E s := by
  obtain ⟨hz', its, n, ri, e⟩ := I.hok D _ hD
  have hl := ri.length
  refine append_at (hsz := by rw [List.size_toArray]; omega) e fun h' sb ho' => ?_
  refine h { s with heap := h' } (I.write (t' := s.toks) (by rw [hD]; trivial) (.inl rfl) (fun b u hb q => (sb.2 b hb).trans q) ⟨_, ho'⟩ ⟨by rw [List.length_append]; exact hz, its ++ [v], n + 1, ri.append (.cons r .nil), ?_⟩)
  rw [ho']
  simp
def PTs (X : Cx) (ifs : List Expr) (t : TT) : Prop :=
  ∀ (pins : List (Addr × Obj)) (s : Shared) (σ : St) (H : Hp) (Q : Bool → Hp → Prop), Inv X pins σ H s → t σ H Q →
    wpAny (model X.prog X.w) X.A (forIn ifs true fun c r => if r = true then do let ok ← isTrue c X.env (eval c X.env); pure (ForInStep.yield ok) else pure (ForInStep.yield r)) (TP X pins σ Q) X.xe s
def tYes : TT := fun _ H Q => Q true H
theorem pts_nil : PTs X [] tYes := fun _ _ _ H _ I h => wpAny_tests_nil ⟨H, I, h⟩
end
theorem thnF {α : Type} {t : Sem α} {Q Q' : α → Shared → Prop} {M : Model} {A : Around} {E : Value → Shared → Prop} {s : Shared} (h : wpAny M A t Q (fun _ _ => False) s) (hQ : ∀ a s, Q a s → Q' a s) : wpAny M A t Q' E s := wpAny_mono h hQ fun _ _ z => False.elim z
theorem compLoop_any {prog : Program} {w : World} {A : Around} {R : Result → Shared → Prop} {s : Shared} {elt target iter : Expr} {ifs : List Expr} {scope : Scope} {pos : Pos} {it acc : Value} {env : Env} (I : Nat → Shared → Prop)
    (turn : ∀ n s, I n s → wpAny (model prog w) A (pyNext it) (fun r s₁ => match r with
      | none => R (.ok .next) s₁
      | some v => wpAny (model prog w) A (letOwnedTupleGo target it v) (fun _ s₁' => wpAny (model prog w) A (assign target env v) (fun _ s₂ =>
          wpAny (model prog w) A (forIn ifs true fun c r => if r = true then do let ok ← isTrue c env (eval c env); pure (ForInStep.yield ok) else pure (ForInStep.yield r)) (fun ok s₃ =>
            if ok = true then wpAny (model prog w) A (eval elt env) (fun x s₄ =>
              wpAny (model prog w) A (call (.builtin "list.append") [acc, x]) (fun _ s₅ => ∃ m, m < n ∧ I m s₅) (notedBy (model prog w) A env fun e s' => R (.error e) s') s₄) (notedBy (model prog w) A env fun e s' => R (.error e) s') s₃
            else ∃ m, m < n ∧ I m s₃) (notedBy (model prog w) A env fun e s' => R (.error e) s') s₂) (notedBy (model prog w) A env fun e s' => R (.error e) s') s₁') (notedBy (model prog w) A env fun e s' => R (.error e) s') s₁) (notedBy (model prog w) A env fun e s' => R (.error e) s') s)
    (n : Nat) (h : I n s) :
    codeAny (model prog w) A (.compLoop (.ListComp elt [⟨target, iter, ifs, 0⟩] scope pos) 0 it acc env) R s := by
  refine codeAny_loop rfl I (fun n s hI => ?_) n h
  show wpAny _ A ((compTurn (.ListComp elt [⟨target, iter, ifs, 0⟩] scope pos) 0 it acc env).onRaise (fun x => do noteFrame x env; theTreesLotGoes x)) _ _ s
  refine wpAny_noted ?_
  rw [compTurn_list]
  refine wpAny_bind (wpAny_standAt (wpAny_bind (wpAny_mono (turn n s hI) (fun r s₁ h₁ => ?_) fun _ _ h' => h')))
  cases r with
  | none => exact wpAny_pure h₁
  | some v =>
    refine wpAny_bind (wpAny_mono h₁ (fun _ s₁' h₁' => ?_) fun _ _ h' => h')
    refine wpAny_bind (wpAny_mono h₁' (fun _ s₂ h₂ => wpAny_bind (wpAny_mono h₂ (fun ok s₃ h₃ => ?_) fun _ _ h' => h')) fun _ _ h' => h')
    cases ok with
    | false => exact wpAny_pure ⟨rfl, h₃⟩
    | true =>
      exact wpAny_bind (wpAny_bind (wpAny_mono h₃ (fun x s₄ h₄ => wpAny_bind (wpAny_mono h₄ (fun _ s₅ h₅ => wpAny_pure (wpAny_pure ⟨rfl, h₅⟩)) fun _ _ h' => h')) fun _ _ h' => h'))
section
variable {X : Cx}
def tLc (wi : TI) (g : TG) (tt : TT) (te : TE) (vs : List Nat) : TE := fun σ H Q => wi σ H fun J H1 => ∀ D, H1 D = none → ∃ W : Nat → Nat → Hp → Prop, (∃ m, W 0 m (upd H1 D (.lst []))) ∧ ∀ i m H, W i m H →
  (J.stop i H ∧ Q (.ref D) H) ∨ (J.go i H ∧ ∃ Nx : Hp → Prop, (∀ H', Nx H' → ∃ m', m' < m ∧ W (i + 1) m' H') ∧ ∀ x H', J.yld i H x H' → g x (wipe σ vs) H' fun σ2 H2 => wipe σ2 vs = wipe σ vs ∧ tt σ2 H2 fun b H3 =>
    if b = true then te σ2 H3 fun y H4 => ∃ acc, H4 D = some (.lst acc) ∧ acc.length < sizeLine ∧ Nx (upd H4 D (.lst (acc ++ [y]))) else Nx H3)
theorem lc_core {pins : List (Addr × Obj)} {s : Shared} {σ : St} {H : Hp} {Q : VK} {elt tg iter : Expr} {ifs : List Expr} {scope : Scope} {own : List (Str × Nat)} {pos pos' : Pos} {wi : TI} {g : TG} {tt : TT} {te : TE} {use : Option (Value → Sem Unit)} {Qf : Value → Shared → Prop}
    (hc : X.calm = true) (hN : X.N.Nodup) (I : Inv X pins σ H s) (hi : PI X tg iter wi) (ok : BlkOk X.N X.env.scope scope own)
    (hg : ∀ (s : Shared) (H : Hp) (C : Addr) (cl : List (Str × Addr)) (fp : List Addr), PG (X.blk s H scope (compEnvC scope cl C X.env) fp) tg g) (ht : ∀ (s : Shared) (H : Hp) (C : Addr) (cl : List (Str × Addr)) (fp : List Addr), PTs (X.blk s H scope (compEnvC scope cl C X.env) fp) ifs tt)
    (he : ∀ (s : Shared) (H : Hp) (C : Addr) (cl : List (Str × Addr)) (fp : List Addr), PE (X.blk s H scope (compEnvC scope cl C X.env) fp) elt te) (hs : ∀ x, foldedSetIterable iter X.env x = pure x)
    (h : tLc wi g tt te (own.map (·.2)) σ H Q)
    (hRR : ∀ D C s' m H', Inv X pins σ H' s' → Q (.ref D) H' → s'.heap.Ns C m → FpOk X pins H' C → compPost (model X.prog X.w) X.A X.xe use Qf (.ref D) C (.ok .next) s') :
    wpAny (model X.prog X.w) X.A (comprehension (.ListComp elt [⟨tg, iter, ifs, 0⟩] scope pos) scope X.env pos' (newList []) false (eval iter X.env) use) Qf X.xe s := by
  have hfree : ∀ y ∈ scope.names, y.2 = .free → ∃ c, X.env.cells.lookup y.1 = some c := fun y hy e => by
    rcases ok.free y hy e with k | k
    · exact I.ok.has _ (.inl k)
    · exact I.ok.has _ (.inr k)
  refine wpAny_comprehension_free (use := use) rfl hs (closure_ok hfree) ok.kind (fun y hy e => by rw [ok.uniq y hy, e])
    (thn (hi pins s σ H _ I h) fun xv s1 hx => thn hx fun itv s2 h2 => ?_)
  obtain ⟨it, fp, tn, J, H2, e, I2, T, st2, f2, q⟩ := h2
  subst e
  refine wpAny_newObj_type (newEnv_comp ?_) (by show 0 ≤ sizeLine; decide)
  generalize hD : s2.heap.objs.size = D
  have hDn : H2 D = none := I2.hok.fresh (Nat.le_of_eq hD)
  obtain ⟨W, ⟨m0, w0⟩, turn⟩ := q D hDn
  -- the new list
  generalize hs3 : ({ s2 with heap := s2.heap.push { cls := .type "list", data := .seq ([] : List Value).toArray } } : Shared) = s3
  have I3 : Inv X pins σ (upd H2 D (.lst [])) s3 := by
    rw [← hs3]
    refine I2.laid (t' := s2.toks) (fun b o e => Heap.get?_push_of_some _ e) (Nat.le_of_eq hD) ⟨Nat.zero_le _, [], 0, .nil, ?_⟩
    rw [← hD]
    exact Heap.get?_push_size _ rfl
  have h3 : s3.heap = s2.heap.push { cls := .type "list", data := .seq ([] : List Value).toArray } := by rw [← hs3]
  have sz : ∀ b ∈ fp, b < s2.heap.objs.size := fun b hb => by
    obtain ⟨o, e, _⟩ := T.obj _ _ st2 b hb
    exact Heap.lt_size e
  have f3 : ∀ b ∈ fp, FpOk X pins (upd H2 D (.lst [])) b ∧ b < s3.heap.objs.size := fun b hb => by
    have hlt := sz b hb
    refine ⟨⟨?_, (f2 b hb).2⟩, by rw [h3, Heap.size_push]; exact Nat.lt_succ_of_lt hlt⟩
    rw [upd_ne (by rw [← hD]; exact Nat.ne_of_lt hlt)]
    exact (f2 b hb).1
  have st3 : tn 0 s3.heap := T.keep _ _ _ st2 fun b _ o e => by rw [h3]; exact Heap.get?_push_of_some _ e
  have I4 := block_start I3 ok hN f3
  have pg := hg s3 (upd H2 D (.lst [])) s3.heap.objs.size (cellsFrom (s3.heap.objs.size + 1) scope.names (cloFrom X.env.cells scope.names [])) fp
  have pt := ht s3 (upd H2 D (.lst [])) s3.heap.objs.size (cellsFrom (s3.heap.objs.size + 1) scope.names (cloFrom X.env.cells scope.names [])) fp
  have pe := he s3 (upd H2 D (.lst [])) s3.heap.objs.size (cellsFrom (s3.heap.objs.size + 1) scope.names (cloFrom X.env.cells scope.names [])) fp
  show codeAny _ _ (.compStart (.ListComp elt [⟨tg, iter, ifs, 0⟩] scope pos) 0 (.ref it) (.ref D) (compEnvC scope (cellsFrom (s3.heap.objs.size + 1) scope.names (cloFrom X.env.cells scope.names [])) s3.heap.objs.size X.env)) (compPost (model X.prog X.w) X.A X.xe use Qf (.ref D) s3.heap.objs.size) { s3 with heap := pushCells (s3.heap.push { cls := .type "dict", data := .dict #[] }) scope.names }
  have nfp : ∀ b ∈ fp, (upd H2 D (.lst [])) b = none := fun b hb => (f3 b hb).1.1
  generalize hce : compEnvC scope (cellsFrom (s3.heap.objs.size + 1) scope.names (cloFrom X.env.cells scope.names [])) s3.heap.objs.size X.env = ce at I4 pg pt pe ⊢
  have cL : ce.locals = s3.heap.objs.size := by subst hce; rfl
  generalize hH3 : upd H2 D (.lst []) = H3 at I3 I4 pg pt pe w0 nfp f3
  generalize hs4 : ({ s3 with heap := pushCells (s3.heap.push { cls := .type "dict", data := .dict #[] }) scope.names } : Shared) = s4 at I4 ⊢
  have st4 : tn 0 s4.heap := T.keep _ _ _ st3 fun b _ o e => by rw [← hs4]; exact pushCells_keeps _ _ _ _ (Heap.get?_push_of_some _ e)
  have stat : ∀ {σ' : St} {H' : Hp} {s' : Shared}, Inv (X.blk s3 H3 scope ce fp) [] σ' H' s' → (∀ b ∈ fp, H' b = none) → ∀ b ∈ fp, FpOk (X.blk s3 H3 scope ce fp) [] H' b := fun {σ' H' s'} I' hn b hb =>
    ⟨hn b hb, (I'.ok.exf b hb).1, I'.ok.exfs b hb, .inl hb, fun x c e => (I'.ok.exf b hb).2 x c e, fun p hp => absurd (show p ∈ ([] : List (Addr × Obj)) ++ [] from hp) (by simp)⟩
  have loop : codeAny (model X.prog X.w) X.A (.compLoop (.ListComp elt [⟨tg, iter, ifs, 0⟩] scope pos) 0 (.ref it) (.ref D) ce) (compPost (model X.prog X.w) X.A X.xe use Qf (.ref D) s3.heap.objs.size) s4 := by
    refine compLoop_any (fun n s' => ∃ i H', Inv (X.blk s3 H3 scope ce fp) [] (wipe σ (own.map (·.2))) H' s' ∧ tn i s'.heap ∧ (∀ b ∈ fp, H' b = none) ∧ W i n H') ?_ m0 ⟨0, H3, I4, st4, nfp, w0⟩
    rintro n s5 ⟨i, H5, I5, st5, n5, w5⟩
    rcases turn i n H5 w5 with ⟨stop, qq⟩ | ⟨go, Nx, hNx, step⟩
    · have td := T.done (X.blk s3 H3 scope ce fp) rfl rfl rfl hc i [] s5 _ H5 (fun _ _ => False) I5 (stat I5 n5) st5 stop
      refine thnF td fun r s6 ⟨hr, I6⟩ => ?_
      subst hr
      -- back in the def's context
      have I7 : Inv X pins σ H5 s6 := I3.call' (ch := fp) I6.os I6.base I6.hok I6.bare fun b hb => ⟨(f3 b hb).1.2.2.2.1, (f3 b hb).1.2.1, (f3 b hb).1.2.2.2.2.1, (f3 b hb).1.2.2.2.2.2⟩
      have nC : H5 s3.heap.objs.size = none := by
        have z : H5 ce.locals = none := I6.free
        rw [cL] at z
        exact z
      obtain ⟨m, hn, _⟩ := I6.loc
      have hn : s6.heap.Ns ce.locals m := hn
      rw [cL] at hn
      exact hRR D s3.heap.objs.size s6 m H5 I7 qq hn (I3.fpOk (Nat.le_refl _) nC)
    · have ti := T.item (X.blk s3 H3 scope ce fp) rfl rfl rfl hc i [] s5 _ H5 (fun _ _ => False) I5 (stat I5 n5) st5 go
      refine thnF ti fun r s6 ⟨u, hr, h6⟩ => ?_
      subst hr
      refine thnF h6 fun _ s7 ⟨x, H7, I7, r7, y7, st7, n7⟩ => ?_
      have I7' := I7.pinned (stat I7 n7) (T.obj _ _ st7)
      refine thnF (pg _ s7 _ H7 x u _ I7' r7 (step x H7 y7)) fun _ s8 ⟨σ8, H8, I8, hw8, q8⟩ => ?_
      refine thnF (pt _ s8 σ8 H8 _ I8 q8) fun b s9 ⟨H9, I9, q9⟩ => ?_
      -- the turn's end
      have fin : ∀ {s' : Shared} {H' : Hp}, Inv (X.blk s3 H3 scope ce fp) ([] ++ pinsAt fp s7.heap) σ8 H' s' → Nx H' → ∃ m, m < n ∧ ∃ i H', Inv (X.blk s3 H3 scope ce fp) [] (wipe σ (own.map (·.2))) H' s' ∧ tn i s'.heap ∧ (∀ b ∈ fp, H' b = none) ∧ W i m H' := fun {s' H'} I' nx => by
        obtain ⟨m', hm, w'⟩ := hNx H' nx
        have pin' : ∀ b ∈ fp, ∀ o, s7.heap.get? b = some o → s'.heap.get? b = some o ∧ H' b = none := fun b hb o e =>
          let z := I'.pin (b, o) (List.mem_append_right _ (List.mem_append_right _ (mem_pinsAt hb e)))
          ⟨z.1, z.2.1⟩
        have hl : (wipe σ (own.map (·.2))).length = σ8.length := by rw [← hw8, wipe_length]
        refine ⟨m', hm, i + 1, H', (I'.unpinned (pins := [])).weak hl (fun j v e => ?_), T.keep _ _ _ st7 fun b hb o e => (pin' b hb o e).1, fun b hb => ?_, w'⟩
        · rw [← hw8] at e
          exact (wipe_some e).1
        · obtain ⟨o, e, _⟩ := T.obj _ _ st7 b hb
          exact (pin' b hb o e).2
      cases b with
      | false =>
        simp only [Bool.false_eq_true, if_false] at q9 ⊢
        exact fin I9 q9
      | true =>
        simp only [if_true] at q9 ⊢
        refine thnF (pe _ s9 σ8 H9 _ I9 q9) fun z s10 ⟨yv, H10, I10, r10, acc, hD10, hz10, nx⟩ => ?_
        exact app_ok (X := X.blk s3 H3 scope ce fp) I10 hD10 hz10 r10 fun s11 I11 => fin I11 nx
  exact codeAny_compStart_list loop (T.self X.A 0 _ _ _ st4 loop)
theorem pe_lc {elt tg iter : Expr} {ifs : List Expr} {scope : Scope} {own : List (Str × Nat)} {pos : Pos} {wi : TI} {g : TG} {tt : TT} {te : TE} (hc : X.calm = true) (hN : X.N.Nodup) (hi : PI X tg iter wi) (ok : BlkOk X.N X.env.scope scope own)
    (hg : ∀ (s : Shared) (H : Hp) (C : Addr) (cl : List (Str × Addr)) (fp : List Addr), PG (X.blk s H scope (compEnvC scope cl C X.env) fp) tg g) (ht : ∀ (s : Shared) (H : Hp) (C : Addr) (cl : List (Str × Addr)) (fp : List Addr), PTs (X.blk s H scope (compEnvC scope cl C X.env) fp) ifs tt)
    (he : ∀ (s : Shared) (H : Hp) (C : Addr) (cl : List (Str × Addr)) (fp : List Addr), PE (X.blk s H scope (compEnvC scope cl C X.env) fp) elt te) (hs : ∀ x, foldedSetIterable iter X.env x = pure x := by intro _; rfl) :
    PE X (.ListComp elt [⟨tg, iter, ifs, 0⟩] scope pos) (tLc wi g tt te (own.map (·.2))) := by
  intro pins s σ H Q I h
  rw [eval_ListComp]
  refine lc_core hc hN I hi ok hg ht he hs h fun D C s' m H' I' q hn f => ⟨m, hn, fun h'' sb => ?_⟩
  obtain ⟨f0, f1, f2, f3, f4, f5⟩ := f
  exact ⟨.ref D, H', I'.turned (t' := s'.toks) (fun b o hb e => (sb.2 b hb).trans e) f0 f1 f3 f4 f5, rfl, q⟩
theorem ps_setLc {i : Nat} {y : Str} {py : Pos} {elt tg iter : Expr} {ifs : List Expr} {scope : Scope} {own : List (Str × Nat)} {pos spos : Pos} {wi : TI} {g : TG} {tt : TT} {te : TE} (hc : X.calm = true) (hN : X.N.Nodup) (hy : X.N[i]? = some y) (hyl : X.env.scope.names.lookup y = some .local)
    (hsw : swapsWith (.ListComp elt [⟨tg, iter, ifs, 0⟩] scope pos) (some (.Name y py)) spos.line X.env = pure true) (hi : PI X tg iter wi) (ok : BlkOk X.N X.env.scope scope own)
    (hg : ∀ (s : Shared) (H : Hp) (C : Addr) (cl : List (Str × Addr)) (fp : List Addr), PG (X.blk s H scope (compEnvC scope cl C X.env) fp) tg g) (ht : ∀ (s : Shared) (H : Hp) (C : Addr) (cl : List (Str × Addr)) (fp : List Addr), PTs (X.blk s H scope (compEnvC scope cl C X.env) fp) ifs tt)
    (he : ∀ (s : Shared) (H : Hp) (C : Addr) (cl : List (Str × Addr)) (fp : List Addr), PE (X.blk s H scope (compEnvC scope cl C X.env) fp) elt te) (hs : ∀ x, foldedSetIterable iter X.env x = pure x := by intro _; rfl) :
    PS X (.Assign [.Name y py] (.ListComp elt [⟨tg, iter, ifs, 0⟩] scope pos) spos) (tAsg (tLc wi g tt te (own.map (·.2))) (gName i)) := by
  intro pins s σ H D I h
  rw [exec_Assign_Name_used _ _ _ _ hsw]
  refine wpAny_bind (wpAny_standAt (wpAny_bind ?_))
  show wpAny _ X.A (do let _ ← comprehension (.ListComp elt [⟨tg, iter, ifs, 0⟩] scope pos) scope X.env (firstIterPos [⟨tg, iter, ifs, 0⟩] pos) (newList []) false (eval iter X.env) (some (assign (.Name y py) X.env))) _ _ s
  have h : tLc wi g tt te (own.map (·.2)) σ H (fun x H1 => gName i x σ H1 D.nx) := h
  refine wpAny_bind (thn (lc_core (Qf := fun _ s' => SP X pins D .next s') hc hN I hi ok hg ht he hs h fun L C s' m H' I' q hn f => ?_) fun _ s' hq => wpAny_pure (wpAny_pure hq))
  show wpAny _ _ (assign (.Name y py) X.env (.ref L)) _ _ _
  refine wpAny_assign_Name (store_ok2 (v := V.ref L) I' hN hy (.inl hyl) rfl (fun s2 I2 ⟨a, sb, ha⟩ => ?_) (.inr hyl))
  obtain ⟨f0, f1, f2, f3, f4, f5⟩ := f
  have haC : C ≠ a := by
    rcases ha with z | z
    · rw [z]; exact f1
    · exact fun e => f4 y a z e.symm
  refine ⟨m, hn.sameBut sb haC, fun h3 sb3 => ?_⟩
  exact ⟨_, H', I2.turned (t' := s2.toks) (fun b o hb e => (sb3.2 b hb).trans e) f0 f1 f3 f4 f5, q⟩
theorem sw_true {elt : Expr} {gs : List Comprehension} {scope : Scope} {pos py : Pos} {y : Str} {l : Nat} {env : Env} (hk : env.scope.kind = .function) (hy : env.scope.names.lookup y = some .local) (hl : (py.line == pos.line) = true)
    (ha : (scope.names.any fun (n, k) => n == y && (k == .local || k == .cell)) = false) : swapsWith (.ListComp elt gs scope pos) (some (.Name y py)) l env = pure true := by
  have ky : env.kindOf y = some .local := hy
  have hb : env.blockKind = .function := by unfold Env.blockKind; rw [hk]; rfl
  unfold swapsWith
  simp only [hb, ky, ha, Expr.pos, hl]
  rfl
end
theorem lc_list {K : PySem.W.Frag} {a : Addr} {xs : List V} {g : TG} {tt : TT} {te : TE} {vs : List Nat} {σ : St} {H1 : Hp} {D : Addr} {Qd : Hp → Prop} (Pv : Nat → Hp → Prop) (h0 : Pv 0 (upd H1 D (.lst []))) (hl : ∀ i H, i ≤ xs.length → Pv i H → SqL K H a xs)
    (hs : ∀ i x H, xs[i]? = some x → Pv i H → g x (wipe σ vs) H fun σ2 H2 => wipe σ2 vs = wipe σ vs ∧ tt σ2 H2 fun b H3 =>
      if b = true then te σ2 H3 fun y H4 => ∃ acc, H4 D = some (.lst acc) ∧ acc.length < sizeLine ∧ Pv (i + 1) (upd H4 D (.lst (acc ++ [y]))) else Pv (i + 1) H3) (hd : ∀ H, Pv xs.length H → Qd H) :
    ∃ W : Nat → Nat → Hp → Prop, (∃ m, W 0 m (upd H1 D (.lst []))) ∧ ∀ i m H, W i m H →
      ((Itl K a).stop i H ∧ Qd H) ∨ ((Itl K a).go i H ∧ ∃ Nx : Hp → Prop, (∀ H', Nx H' → ∃ m', m' < m ∧ W (i + 1) m' H') ∧ ∀ x H', (Itl K a).yld i H x H' → g x (wipe σ vs) H' fun σ2 H2 => wipe σ2 vs = wipe σ vs ∧ tt σ2 H2 fun b H3 =>
        if b = true then te σ2 H3 fun y H4 => ∃ acc, H4 D = some (.lst acc) ∧ acc.length < sizeLine ∧ Nx (upd H4 D (.lst (acc ++ [y]))) else Nx H3) := by
  refine ⟨fun i m H => m = xs.length - i ∧ i ≤ xs.length ∧ Pv i H, ⟨xs.length, by simp, Nat.zero_le _, h0⟩, ?_⟩
  rintro i m H ⟨rfl, hi, p⟩
  have q := hl i H hi p
  by_cases hlt : i < xs.length
  · refine .inr ⟨⟨xs, xs[i], q, by simp [hlt]⟩, Pv (i + 1), fun H' p' => ⟨xs.length - (i + 1), by omega, rfl, hlt, p'⟩, fun x H' y => ?_⟩
    obtain ⟨e, y⟩ := y
    subst e
    exact hs i x _ (y xs q) p
  · have e : i = xs.length := by omega
    subst e
    exact .inl ⟨⟨xs, q, Nat.le_refl _⟩, hd H p⟩
def blkC (N : List Str) (sc scope : Scope) (own : List (Str × Nat)) : Bool :=
  (match scope.kind with | .function => true | _ => false) && (scope.names.all fun y => decide (scope.names.lookup y.1 = some y.2)) && (own.all fun p => decide (N[p.2]? = some p.1)) &&
    (scope.names.all fun y => match y.2 with
      | .free => (match sc.names.lookup y.1 with | some .cell => true | some .free => true | _ => false)
      | .local => decide (y.1 ∈ own.map (·.1)) || decide (y.1 ∉ N)
      | .cell => decide (y.1 ∈ own.map (·.1)) || decide (y.1 ∉ N)
      | _ => true)
theorem blkOk_by {N : List Str} {sc scope : Scope} {own : List (Str × Nat)} (h : blkC N sc scope own = true) : BlkOk N sc scope own := by
  unfold blkC at h
  simp only [Bool.and_eq_true, List.all_eq_true, decide_eq_true_eq] at h
  obtain ⟨⟨⟨h1, h2⟩, h3⟩, h4⟩ := h
  refine ⟨?_, h2, h3, fun y hy e => ?_, fun y hy e => ?_⟩
  · split at h1
    · assumption
    · cases h1
  · have q := h4 y hy
    simp only [e] at q
    split at q <;> first | exact .inl (by assumption) | exact .inr (by assumption) | cases q
  · have q := h4 y hy
    rcases e with e | e <;> (simp only [e, Bool.or_eq_true, decide_eq_true_eq] at q; exact q)
end L2
namespace L2
open PySem PySem.Spec PyProof.Rows
section
variable {prog : Program} {w : World} {A : Around} {R : Result → Shared → Prop} {s : Shared} {elt t0 i0 t1 i1 : Expr} {ifs0 ifs1 : List Expr} {scope : Scope} {pos : Pos} {it acc : Value} {env : Env}
end
section
variable {X : Cx}
end
end L2
namespace L2
open PySem PySem.Spec PyProof.Rows
section
variable {κ : Type} [DecidableEq κ]
def valV (kvs : List (κ × V)) (k : κ) : Option V := (kvs.find? fun kv => decide (kv.1 = k)).map (·.2)
def putK (kvs : List (κ × V)) (k : κ) (v : V) : List (κ × V) :=
  if (kvs.any fun kv => decide (kv.1 = k)) = true then kvs.map (fun kv => if kv.1 = k then (kv.1, v) else kv) else kvs ++ [(k, v)]
def dropK (kvs : List (κ × V)) (k : κ) : List (κ × V) := kvs.filter fun kv => decide (kv.1 ≠ k)
theorem valV_pos {p : κ × V} {r : List (κ × V)} {k : κ} (e : p.1 = k) : valV (p :: r) k = some p.2 := by simp [valV, List.find?_cons, e]
theorem valV_neg {p : κ × V} {r : List (κ × V)} {k : κ} (e : ¬ p.1 = k) : valV (p :: r) k = valV r k := by simp [valV, List.find?_cons, e]
theorem valV_any (k : κ) : ∀ kvs : List (κ × V), (kvs.any fun kv => decide (kv.1 = k)) = (valV kvs k).isSome
  | [] => rfl
  | p :: r => by
    rw [List.any_cons]
    by_cases e : p.1 = k
    · simp only [valV_pos e, decide_eq_true e, Bool.true_or, Option.isSome_some]
    · rw [valV_neg e, decide_eq_false e, Bool.false_or]; exact valV_any k r
theorem RelO.isSome_eq {o : Option V} {u : Option Value} (r : RelO o u) : o.isSome = u.isSome := by
  cases o with
  | none => cases u with
    | none => rfl
    | some _ => exact (show False from r).elim
  | some _ => cases u with
    | none => exact (show False from r).elim
    | some _ => rfl
theorem RelO.getD {o : Option V} {u : Option Value} {d : V} {d' : Value} (r : RelO o u) (rd : RelV d d') : RelV (o.getD d) (u.getD d') := by
  cases o with
  | none => cases u with
    | none => exact rd
    | some _ => exact (show False from r).elim
  | some _ => cases u with
    | none => exact (show False from r).elim
    | some _ => exact r
theorem KV.val {kvs : List (κ × V)} {vs : List (κ × Value)} (r : KV kvs vs) (k : κ) : RelO (valV kvs k) (valueAt vs k) := by
  unfold KV at r
  induction r with
  | nil => exact True.intro
  | @cons p q ps qs h t ih =>
    obtain ⟨h1, h2⟩ := h
    by_cases e : p.1 = k
    · have e' : q.1 = k := h1.symm.trans e
      have b : valueAt (q :: qs) k = some q.2 := by simp [valueAt, List.find?_cons, e']
      rw [valV_pos e, b]; exact h2
    · have e' : ¬ q.1 = k := fun z => e (h1.trans z)
      have b : valueAt (q :: qs) k = valueAt qs k := by simp [valueAt, List.find?_cons, e']
      rw [valV_neg e, b]; exact ih
theorem KV.any {kvs : List (κ × V)} {vs : List (κ × Value)} (r : KV kvs vs) (k : κ) : (kvs.any fun kv => decide (kv.1 = k)) = vs.any fun kv => decide (kv.1 = k) := by
  unfold KV at r
  induction r with
  | nil => rfl
  | cons h t ih => rw [List.any_cons, List.any_cons, ih, h.1]
theorem KV.repl {kvs : List (κ × V)} {vs : List (κ × Value)} (r : KV kvs vs) (k : κ) {y : V} {u : Value} (ry : RelV y u) :
    KV (kvs.map fun kv => if kv.1 = k then (kv.1, y) else kv) (vs.map fun kv => if kv.1 = k then (kv.1, u) else kv) := by
  unfold KV at r ⊢
  induction r with
  | nil => exact .nil
  | @cons p q ps qs h t ih =>
    rw [List.map_cons, List.map_cons]
    refine .cons ?_ ih
    obtain ⟨h1, h2⟩ := h
    by_cases e : p.1 = k
    · rw [if_pos e, if_pos (h1.symm.trans e)]; exact ⟨h1, ry⟩
    · rw [if_neg e, if_neg (fun z => e (h1.trans z))]; exact ⟨h1, h2⟩
theorem KV.put {kvs : List (κ × V)} {vs : List (κ × Value)} (r : KV kvs vs) (k : κ) {y : V} {u : Value} (ry : RelV y u) : KV (putK kvs k y) (stored vs k u) := by
  unfold putK stored
  rw [r.any k]
  by_cases e : (vs.any fun kv => decide (kv.1 = k)) = true
  · rw [if_pos e, if_pos e]; exact r.repl k ry
  · rw [if_neg e, if_neg e]; exact Paired.snoc r ⟨rfl, ry⟩
theorem KV.drop {kvs : List (κ × V)} {vs : List (κ × Value)} (r : KV kvs vs) (k : κ) : KV (dropK kvs k) (without vs k) := by
  unfold KV at r ⊢
  unfold dropK without
  induction r with
  | nil => exact .nil
  | @cons p q ps qs h t ih =>
    obtain ⟨h1, h2⟩ := h
    rw [List.filter_cons, List.filter_cons]
    by_cases e : p.1 = k
    · have a : ¬ decide (p.1 ≠ k) = true := by simp [e]
      have b : ¬ decide (q.1 ≠ k) = true := by simp [h1.symm.trans e]
      rw [if_neg a, if_neg b]; exact ih
    · have e' : ¬ q.1 = k := fun z => e (h1.trans z)
      have a : decide (p.1 ≠ k) = true := by simp [e]
      have b : decide (q.1 ≠ k) = true := by simp [e']
      rw [if_pos a, if_pos b]; exact .cons ⟨h1, h2⟩ ih
theorem KV.keys {kvs : List (κ × V)} {vs : List (κ × Value)} (r : KV kvs vs) : kvs.map (·.1) = vs.map (·.1) := by
  unfold KV at r
  induction r with
  | nil => rfl
  | cons h t ih => rw [List.map_cons, List.map_cons, ih, h.1]
theorem KV.length {kvs : List (κ × V)} {vs : List (κ × Value)} (r : KV kvs vs) : kvs.length = vs.length := Paired.length r
end
abbrev KT (H : Hp) : List (List Key × V) → List (List Key × Addr × Value) → Prop := Paired fun p q => p.1 = q.1 ∧ H q.2.1 = some (.tup (p.1.map kV)) ∧ RelV p.2 q.2.2
theorem KT.val {H : Hp} {kvs : List (List Key × V)} {xs : List (List Key × Addr × Value)} (r : KT H kvs xs) (k : List Key) : RelO (valV kvs k) ((atKey xs k).map (·.2)) := by
  induction r with
  | nil => exact True.intro
  | @cons p q ps qs h t ih =>
    obtain ⟨h1, _, h2⟩ := h
    by_cases e : p.1 = k
    · have e' : q.1 = k := h1.symm.trans e
      have b : atKey (q :: qs) k = some q.2 := by simp [atKey, List.find?_cons, e']
      rw [valV_pos e, b]; exact h2
    · have e' : ¬ q.1 = k := fun z => e (h1.trans z)
      have b : atKey (q :: qs) k = atKey qs k := by simp [atKey, List.find?_cons, e']
      rw [valV_neg e, b]; exact ih
theorem KT.repl {H : Hp} {kvs : List (List Key × V)} {xs : List (List Key × Addr × Value)} (r : KT H kvs xs) (k : List Key) {y : V} {u : Value} (ry : RelV y u) :
    KT H (kvs.map fun kv => if kv.1 = k then (kv.1, y) else kv) (xs.map (putAt k u)) := by
  induction r with
  | nil => exact .nil
  | @cons p q ps qs h t ih =>
    rw [List.map_cons, List.map_cons]
    refine .cons ?_ ih
    obtain ⟨h1, h2, h3⟩ := h
    unfold putAt
    by_cases e : p.1 = k
    · rw [if_pos e, if_pos (h1.symm.trans e)]; exact ⟨h1, h2, ry⟩
    · rw [if_neg e, if_neg (fun z => e (h1.trans z))]; exact ⟨h1, h2, h3⟩
theorem KT.put {H : Hp} {kvs : List (List Key × V)} {xs : List (List Key × Addr × Value)} (r : KT H kvs xs) (k : List Key) {b : Addr} {y : V} {u : Value} (hb : H b = some (.tup (k.map kV))) (ry : RelV y u) :
    KT H (putK kvs k y) (storedH xs k b u) := by
  have e : (kvs.any fun kv => decide (kv.1 = k)) = (atKey xs k).isSome := by
    rw [valV_any, (r.val k).isSome_eq, Option.isSome_map]
  unfold putK storedH
  rw [e]
  by_cases q : (atKey xs k).isSome = true
  · rw [if_pos q, if_pos q]; exact r.repl k ry
  · rw [if_neg q, if_neg q]; exact Paired.snoc r ⟨rfl, hb, ry⟩
theorem KT.keeps {H H' : Hp} {kvs : List (List Key × V)} {xs : List (List Key × Addr × Value)} (r : KT H kvs xs) (ht : ∀ b ys, H b = some (.tup ys) → H' b = some (.tup ys)) : KT H' kvs xs :=
  Paired.mapP r fun _ _ z => ⟨z.1, ht _ _ z.2.1, z.2.2⟩
section
variable {P : Program} {w : World} {H : Hp} {h : Heap} {a : Addr}
end
def DGet (H : Hp) (a : Addr) (y : V) (r : Option V) : Prop :=
  (∃ kvs k, Rd H a (.dK kvs) ∧ y = kV k ∧ r = valV kvs k) ∨ ∃ kvs k b, Rd H a (.dT kvs) ∧ y = .ref b ∧ H b = some (.tup (k.map kV)) ∧ r = valV kvs k
def DPut (H : Hp) (a : Addr) (y v : V) (H' : Hp) : Prop :=
  (∃ kvs k, H a = some (.dK kvs) ∧ y = kV k ∧ kvs.length < sizeLine ∧ H' = upd H a (.dK (putK kvs k v))) ∨
  ∃ kvs k b, H a = some (.dT kvs) ∧ y = .ref b ∧ H b = some (.tup (k.map kV)) ∧ kvs.length < sizeLine ∧ H' = upd H a (.dT (putK kvs k v))
theorem DGet.k {H : Hp} {a : Addr} {kvs : List (Key × V)} {k : Key} (e : H a = some (.dK kvs)) : DGet H a (kV k) (valV kvs k) := .inl ⟨kvs, k, .inl e, rfl, rfl⟩
theorem DGet.t {H : Hp} {a b : Addr} {kvs : List (List Key × V)} {k : List Key} (e : H a = some (.dT kvs)) (eb : H b = some (.tup (k.map kV))) : DGet H a (.ref b) (valV kvs k) := .inr ⟨kvs, k, b, .inl e, rfl, eb, rfl⟩
theorem DPut.k {H : Hp} {a : Addr} {kvs : List (Key × V)} {k : Key} {v : V} (e : H a = some (.dK kvs)) (hl : kvs.length < sizeLine) : DPut H a (kV k) v (upd H a (.dK (putK kvs k v))) := .inl ⟨kvs, k, e, rfl, hl, rfl⟩
theorem DPut.t {H : Hp} {a b : Addr} {kvs : List (List Key × V)} {k : List Key} {v : V} (e : H a = some (.dT kvs)) (eb : H b = some (.tup (k.map kV))) (hl : kvs.length < sizeLine) :
    DPut H a (.ref b) v (upd H a (.dT (putK kvs k v))) := .inr ⟨kvs, k, b, e, rfl, eb, hl, rfl⟩
section
variable {X : Cx} {pins : List (Addr × Obj)} {σ : St} {H : Hp} {s : Shared} {a : Addr} {y v : V} {u r : Value} {o : Option V} {A : Around} {E : Value → Shared → Prop}
theorem Inv.big (I : Inv X pins σ H s) : sysModules < s.heap.objs.size := by
  have h : mainGlobals < s.heap.objs.size := (I.mod.glob.keeps I.bk).lt
  exact Nat.lt_trans (by decide) h
end
section
variable {X : Cx} {pins : List (Addr × Obj)} {σ : St} {H : Hp} {s : Shared} {a : Addr} {kvs : List (Key × V)} {k : Key} {u : Value} {A : Around} {E : Value → Shared → Prop}
end
section
variable {X : Cx} {o i e value : Expr} {pos pos' tpos : Pos} {td ty tv : TE}
end
section
variable {X : Cx} {pos : Pos}
end
section
variable {X : Cx} {pins : List (Addr × Obj)} {σ : St} {H : Hp} {s : Shared} {a : Addr} {y d : V} {u r : Value} {o : Option V} {A : Around} {E : Value → Shared → Prop}
end
section
variable {X : Cx} {o e f : Expr} {apos cpos : Pos} {td ty tx : TE}
end
section
variable {X : Cx} {pins : List (Addr × Obj)} {σ : St} {H : Hp} {s : Shared} {a : Addr} {kvs : List (Key × V)} {A : Around} {E : Value → Shared → Prop}
end
section
variable {X : Cx} {pins : List (Addr × Obj)} {σ : St} {H : Hp} {s : Shared} {a : Addr} {y : V} {u : Value} {A : Around} {E : Value → Shared → Prop}
end
end L2
namespace L2
open PySem PySem.Spec PyProof.Rows
section
variable {prog : Program} {w : World} {A : Around} {E : Value → Shared → Prop}
end
section
variable {X : Cx}
end
end L2
namespace L2
open PySem PySem.Spec PyProof.Rows
section
variable {X : Cx} {pins : List (Addr × Obj)} {σ : St} {H : Hp} {s : Shared} {h' : Heap}
theorem Inv.turnedL {t' : Nat} {ch : List Addr} (I : Inv X pins σ H s) (k : ∀ b o, b ∉ ch → s.heap.get? b = some o → h'.get? b = some o) (hf : ∀ b ∈ ch, FpOk X pins H b) : Inv X pins σ H { s with heap := h', toks := t' } := by
  have nit : ∀ b u, H b = some u → b ∉ ch := fun b u e z => by
    have q := (hf b z).1
    rw [q] at e; cases e
  refine I.step (g' := s.gens) (d' := s.drawn) (ch := ch) (fun b hb => ⟨(hf b hb).2.2.2.1, (hf b hb).2.1, (hf b hb).2.2.2.2.1, (hf b hb).2.2.2.2.2⟩) (fun b o _ _ hc e _ => k b o hc e) (fun b o _ _ hc e _ => ⟨o.slots, k b o hc e⟩)
    (fun _ _ _ _ n => n) (fun b o hc e => ⟨o, k b o hc e⟩) (fun _ _ e => e) (fun _ _ _ e => e) (fun b ps e => ⟨#[], by rw [e]; simp⟩) (fun m hm => ?_) (fun b u e => ?_) I.bare
  · obtain ⟨o, es, ep, ho, r⟩ := hm
    exact ⟨o, es, ep, k _ o (fun z => (hf _ z).2.1 rfl) ho, r⟩
  · refine (I.hok b u e).stay (fun c v hc q => k c v ?_ q) (fun _ q => q) fun _ _ q => q
    rcases hc with z | z
    · rw [z]; exact nit b u e
    · exact nit c _ z
theorem Inv.turnedNew {t' : Nat} {ch : List Addr} {T : Addr} {ob : HO} (I : Inv X pins σ H s) (k : ∀ b o, b ∉ ch → s.heap.get? b = some o → h'.get? b = some o) (hf : ∀ b ∈ ch, FpOk X pins H b) (hT : s.heap.objs.size ≤ T)
    (new : ObjOk X.prog X.w (upd H T ob) h' T ob) : Inv X pins σ (upd H T ob) { s with heap := h', toks := t' } := by
  have hn : H T = none := I.hok.fresh hT
  have nit : ∀ b u, H b = some u → b ∉ ch := fun b u e z => by
    have q := (hf b z).1
    rw [q] at e; cases e
  refine I.step (g' := s.gens) (d' := s.drawn) (ch := ch) (fun b hb => ⟨(hf b hb).2.2.2.1, (hf b hb).2.1, (hf b hb).2.2.2.2.1, (hf b hb).2.2.2.2.2⟩) (fun b o _ _ hc e _ => k b o hc e) (fun b o _ _ hc e _ => ⟨o.slots, k b o hc e⟩)
    (fun b o _ e n => ?_) (fun b o hc e => ⟨o, k b o hc e⟩) (fun b xs e => ?_) (fun b o u e => ?_) (fun b ps e => ⟨#[], ?_⟩) (fun m hm => ?_) (fun b u e => ?_) I.bare
  · rw [upd_ne (Nat.ne_of_lt (Nat.lt_of_lt_of_le (Heap.lt_size e) hT))]; exact n
  · rw [upd_ne (ne_of_none e hn)]; exact e
  · rw [upd_ne (ne_of_none e hn)]; exact e
  · rw [upd_ne (ne_of_none e hn), e]; simp
  · obtain ⟨o, es, ep, ho, r⟩ := hm
    exact ⟨o, es, ep, k _ o (fun z => (hf _ z).2.1 rfl) ho, r⟩
  · by_cases hb : b = T
    · subst hb
      rw [upd_same] at e
      cases e
      exact new
    · rw [upd_ne hb] at e
      refine (I.hok b u e).stay (fun c v hc q => k c v ?_ q) (fun c q => by rw [upd_ne (ne_of_none q hn)]; exact q) fun c xs q => by rw [upd_ne (ne_of_none q hn)]; exact q
      rcases hc with z | z
      · rw [z]; exact nit b u e
      · exact nit c _ z
end
section
variable {X : Cx}
theorem pi_one {tg : Expr} {pins : List (Addr × Obj)} {σ : St} {H : Hp} {s : Shared} {R : It → Hp → Prop} {J : It} {tn : Nat → Heap → Prop} {tk : Nat} (I : Inv X pins σ H s) (o : Obj)
    (T : Turn X.prog X.w X.K tg J [s.heap.objs.size] s.heap.objs.size tn) (st : tn 0 (s.heap.push o)) (q : R J H) : PIE X pins σ tg R (.ref s.heap.objs.size) { s with heap := s.heap.push o, toks := tk } := by
  refine ⟨s.heap.objs.size, [s.heap.objs.size], tn, J, H, rfl, I.kept fun b ob e => Heap.get?_push_of_some _ e, T, st, fun b hb => ?_, q⟩
  have e : b = s.heap.objs.size := by simpa using hb
  subst e
  exact I.fpOk (Nat.le_refl _) (I.hok.fresh (Nat.le_refl _))
end
def Itc (lo c : Int) (n : Nat) : It := ⟨fun i _ => i < n, fun i H x H' => H' = H ∧ x = .int (lo + (i : Nat) * c), fun i _ => n ≤ i⟩
theorem turn_rangeC {P : Program} {w : World} {K : PySem.W.Frag} {tg : Expr} (it : Addr) (lo c : Int) (n : Nat) : Turn P w K tg (Itc lo c n) [it] it (fun i h => IsRangeIter h it (lo + (i : Nat) * c) ((n : Int) - (i : Nat)) c) where
  mem := by simp
  obj := fun i h st b hb => by
    have e : b = it := by simpa using hb
    subst e
    exact ⟨_, st, fun v z => nomatch z⟩
  keep := fun i h h' st k => k it (by simp) _ st
  item := by
    intro X hP hw hK hc i pins s σ H E I hf st hg
    subst hP hw hK
    obtain ⟨f0, f1, f2, f3, f4, f5⟩ := hf it (by simp)
    have W := Walks.range (prog := X.prog) (w := X.w) (I.ok.hd hc) it lo c n
    refine W.item i s _ _ hg st fun v h' tk hv st' kk => ?_
    obtain ⟨t, rfl⟩ := hv
    have I1 : Inv X pins σ H { s with heap := h', toks := tk } := I.turned (fun b o hb e => kk b o (by simpa using hb) e) f0 f1 f3 f4 f5
    exact ⟨_, rfl, go_of (s := { s with heap := h', toks := tk }) (n := "range_iterator") st' rfl rfl (by decide) ⟨.int (lo + (i : Nat) * c), H, I1, ⟨t, rfl⟩, ⟨rfl, rfl⟩, st', fun b hb => (hf b hb).1⟩⟩
  done := by
    intro X hP hw hK hc i pins s σ H E I hf st hg
    subst hP hw hK
    obtain ⟨f0, f1, f2, f3, f4, f5⟩ := hf it (by simp)
    exact wpAny_pyNext_range_end (I.ok.hd hc) st (by have : n ≤ i := hg; omega) fun h' eb => ⟨rfl, I.turned (t' := s.toks) (fun b o hb e => eb b o hb e) f0 f1 f3 f4 f5⟩
  self := fun A i s Q E st h => wpAny_pyIter_rangeiter st h
def RgC (i j c : Int) (n : Nat) : Prop := c ≠ 0 ∧ c.natAbs < 1073741824 ∧ Builtin.Range.small i j c = true ∧ Builtin.Range.rangeSize i j c = n
theorem RgC.neg {i j : Int} (ha : -(2 ^ 62) ≤ i) (ha' : i < 2 ^ 62) (hb : -(2 ^ 62) ≤ j) (hb' : j < 2 ^ 62) : RgC i j (-1) (i - j).toNat :=
  ⟨by decide, by decide, PySem.W.small_down ha ha' hb hb', PySem.W.rangeSize_downNat i j⟩
def iRng3 (ta : TA) : TI := fun σ H R => ta σ H fun vs H1 => ∃ (i j c : Int) (n : Nat), vs = [.int i, .int j, .int c] ∧ RgC i j c n ∧ R (Itc i c n) H1
section
variable {X : Cx} {tg : Expr}
theorem pi_range3 {a b c : Expr} {ta : TA} {p pos : Pos} (hg : Gl X "range") (hm : X.mg "range" = none) (ha : PA X [a, b, c] ta)
    (hs : starEach [a, b, c] X.env = (false, eval a X.env) :: starEach [b, c] X.env := by rfl) (hpl : (backTo pos (starEach [b, c] X.env)).any (·.1) = false := by rfl) :
    PI X tg (.Call (.Name "range" p) [a, b, c] [] pos) (iRng3 ta) := by
  intro pins s σ H R I h
  refine Call_ (ld_blt I hg hm boot_range (PyProof.Rows.callWith_type1 (thn (ha pos pins s σ H _ I h) fun us s1 ⟨vs, H1, I1, r1, q1⟩ => ?_) hs hpl))
  obtain ⟨i, j, k, n, e, ⟨c0, c1, c2, c3⟩, q⟩ := q1
  subst e
  cases r1 with
  | cons r rr =>
    cases rr with
    | cons r' rr =>
      cases rr with
      | cons r'' rr =>
        cases rr
        obtain ⟨t, rfl⟩ := r
        obtain ⟨t', rfl⟩ := r'
        obtain ⟨t'', rfl⟩ := r''
        refine call_range_3 c0 ?_ (.inl (PyProof.noPylong_small c1))
        refine wpAny_pyIter_range (IsRange.new ..) c2 ?_
        have I2 : Inv X pins σ H1 { s1 with heap := s1.heap.push { cls := .type "range", data := .fields #[.int i t, .int j t', .int k t''] } } := I1.kept (t' := s1.toks) fun b o e => Heap.get?_push_of_some _ e
        refine pi_one (tk := s1.toks) I2 _ (turn_rangeC _ i k n) ?_ q
        have e1 : i + ((0 : Nat) : Int) * k = i := by simp
        have e2 : (n : Int) - ((0 : Nat) : Int) = Builtin.Range.rangeSize i j k := by rw [c3]; simp
        show IsRangeIter _ _ (i + ((0 : Nat) : Int) * k) ((n : Int) - ((0 : Nat) : Int)) k
        rw [e1, e2]
        exact Heap.get?_push_size _ rfl
end
theorem for_rangeC {lo c : Int} {n : Nat} {g : TG} {tb : TS} {D : Ends} {σ : St} {H : Hp} (Pv : Nat → St → Hp → Prop) (h0 : Pv 0 σ H)
    (hs : ∀ i σ H, i < n → Pv i σ H → g (.int (lo + (i : Nat) * c)) σ H fun σ2 H2 => tb { D with nx := Pv (i + 1), ct := Pv (i + 1), bk := D.nx } σ2 H2) (hd : ∀ σ H, Pv n σ H → D.nx σ H) :
    ∃ W : Nat → Nat → St → Hp → Prop, (∃ m, W 0 m σ H) ∧ ∀ i m σ H, W i m σ H →
      ((Itc lo c n).stop i H ∧ D.nx σ H) ∨ ((Itc lo c n).go i H ∧ ∃ N : St → Hp → Prop, (∀ σ' H', N σ' H' → ∃ m', m' < m ∧ W (i + 1) m' σ' H') ∧ ∀ x H', (Itc lo c n).yld i H x H' → g x σ H' fun σ2 H2 => tb { D with nx := N, ct := N, bk := D.nx } σ2 H2) := by
  refine ⟨fun i m σ H => m = n - i ∧ i ≤ n ∧ Pv i σ H, ⟨n, by simp, Nat.zero_le _, h0⟩, ?_⟩
  rintro i m σ H ⟨rfl, hi, p⟩
  by_cases hlt : i < n
  · refine .inr ⟨hlt, Pv (i + 1), fun σ' H' p' => ⟨n - (i + 1), by omega, rfl, hlt, p'⟩, fun x H' y => ?_⟩
    obtain ⟨e, y⟩ := y
    subst e y
    exact hs i σ _ hlt p
  · have e : i = n := by omega
    subst e
    exact .inl ⟨Nat.le_refl _, hd σ H p⟩
section
variable {X : Cx} {tg : Expr}
end
section
variable {prog : Program} {w : World} {A : Around} {E : Value → Shared → Prop} {s : Shared}
end
section
variable {X : Cx} {pins : List (Addr × Obj)} {σ : St} {H : Hp} {s : Shared} {d : Addr} {o : Obj}
end
section
variable {P : Program} {w : World} {K : PySem.W.Frag} {tg : Expr} {d : Addr} {o : Obj} {es : Array DictEntry} {ep : Nat}
end
section
variable {X : Cx} {tg e : Expr} {td : TE} {apos cpos : Pos}
end
def Ite (K : PySem.W.Frag) (a : Addr) : It :=
  ⟨fun i H => ∃ (xs : List V) (x : V), SqL K H a xs ∧ xs[i]? = some x, fun i H v H' => ∃ T x, v = .ref T ∧ H T = none ∧ H' = upd H T (.tup [.int (i : Nat), x]) ∧ ∀ xs, SqL K H a xs → xs[i]? = some x, fun i H => ∃ xs : List V, SqL K H a xs ∧ xs.length ≤ i⟩
theorem turn_enum {P : Program} {w : World} {K : PySem.W.Frag} {elts : List Expr} {kk : Nat} {tpos : Pos} (a e it : Addr) :
    Turn P w K (.Tuple elts kk tpos) (Ite K a) [e, it] e (fun i h => (∃ old, IsEnum h e it ((i : Nat) : Int) old) ∧ h.IsListIter it a i ∧ e ≠ it) where
  mem := by simp
  obj := fun i h st b hb => by
    obtain ⟨⟨old, he⟩, ⟨o, ho, hc, hd⟩, _⟩ := st
    have e' : b = e ∨ b = it := by simpa using hb
    rcases e' with z | z
    · rw [z]; exact ⟨_, he, fun v q => nomatch q⟩
    · rw [z]; exact ⟨o, ho, fun v q => by rw [hd] at q; cases q⟩
  keep := fun i h h' st k => let ⟨⟨old, he⟩, hi, hne⟩ := st; ⟨⟨old, k e (by simp) _ he⟩, hi.at fun o q => k it (by simp) o q, hne⟩
  item := by
    intro X hP hw hK hc i pins s σ H E I hf st hg
    subst hP hw hK
    obtain ⟨⟨old, he⟩, hit, hne⟩ := st
    obtain ⟨xs, x, hq, hx⟩ := hg
    obtain ⟨its, rv, p, hz⟩ := I.list hq
    obtain ⟨u, hu, ru⟩ := rv.get hx
    have hel : e < s.heap.objs.size := Heap.lt_size he
    have hil : it < s.heap.objs.size := by obtain ⟨_, q, _⟩ := hit; exact Heap.lt_size q
    refine wpAny_pyNext_enum_item he hit p.isList (x := u) (by simpa using hu) hne fun h' ho hit' hT hsz hk => ?_
    refine ⟨_, rfl, wpAny_letOwnedTupleGo_enum (s := { s with heap := h', toks := s.toks + 1 }) ho fun h'' he' sb => ?_⟩
    have hT2 : h''.get? s.heap.objs.size = some { cls := .type "tuple", data := .seq #[.int i s.toks, u] } := (sb.2 _ (Nat.ne_of_gt hel)).trans hT
    have new : ObjOk X.prog X.w (upd H s.heap.objs.size (.tup [.int (i : Nat), x])) h'' s.heap.objs.size (.tup [.int (i : Nat), x]) :=
      ⟨by show 2 ≤ sizeLine; decide, [.int i s.toks, u], .cons ⟨_, rfl⟩ (.cons ru .nil), ⟨_, hT2, rfl, _, rfl⟩⟩
    have I1 : Inv X pins σ (upd H s.heap.objs.size (.tup [.int (i : Nat), x])) { s with heap := h'', toks := s.toks + 1 } :=
      I.turnedNew (ch := [e, it]) (fun b ob hb q => (sb.2 b (fun z => hb (by simp [z]))).trans (hk b ob (fun z => hb (by simp [z])) (fun z => hb (by simp [z])) q)) hf (Nat.le_refl _) new
    refine ⟨.ref s.heap.objs.size, _, I1, rfl, ⟨_, x, rfl, I.hok.fresh (Nat.le_refl _), rfl, fun ys hy => by rw [I.list_inj hy hq]; exact hx⟩, ⟨⟨u, ?_⟩, hit'.at fun o q => (sb.2 it (Ne.symm hne)).trans q, hne⟩, fun b hb => ?_⟩
    · have e1 : ((i + 1 : Nat) : Int) = (i : Int) + 1 := by omega
      rw [e1]; exact he'
    · have hb' : b < s.heap.objs.size := by
        have e' : b = e ∨ b = it := by simpa using hb
        rcases e' with z | z
        · rw [z]; exact hel
        · rw [z]; exact hil
      rw [upd_ne (Nat.ne_of_lt hb')]
      exact (hf b hb).1
  done := by
    intro X hP hw hK hc i pins s σ H E I hf st hg
    subst hP hw hK
    obtain ⟨⟨old, he⟩, hit, hne⟩ := st
    obtain ⟨xs, hq, hx⟩ := hg
    obtain ⟨its, rv, p, hz⟩ := I.list hq
    obtain ⟨f0, f1, f2, f3, f4, f5⟩ := hf it (by simp)
    have hl := rv.length
    exact wpAny_pyNext_enum_end (I.ok.hd hc) he hit p.isList (by simp; omega) fun h' eb => ⟨rfl, I.turned (t' := s.toks) (fun b o hb q => eb b o hb q) f0 f1 f3 f4 f5⟩
  self := fun A i s Q E st h => let ⟨⟨_, he⟩, _⟩ := st; wpAny_pyIter_enum he h
def iEnum (K : PySem.W.Frag) (ta : TA) : TI := fun σ H R => ta σ H fun vs H1 => ∃ a xs, vs = [.ref a] ∧ SqL K H1 a xs ∧ R (Ite K a) H1
theorem pi_enum {X : Cx} {e : Expr} {ta : TA} {p pos tpos : Pos} {elts : List Expr} {kk : Nat} (hg : Gl X "enumerate") (hm : X.mg "enumerate" = none) (ha : PA X [e] ta) (hs : starEach [e] X.env = [(false, eval e X.env)] := by rfl) :
    PI X (.Tuple elts kk tpos) (.Call (.Name "enumerate" p) [e] [] pos) (iEnum X.K ta) := by
  intro pins s σ H R I h
  refine Call_ (ld_blt I hg hm boot_enumerate (PyProof.Rows.callWith_type1 (thn (ha pos pins s σ H _ I h) fun us s1 ⟨vs, H1, I1, r1, q1⟩ => ?_) hs rfl))
  obtain ⟨a, xs, ex, hq, q⟩ := q1
  subst ex
  cases r1 with
  | cons r rr =>
    cases rr
    cases r
    obtain ⟨its, rv, p', hz⟩ := I1.list hq
    refine call_enumerate_list p'.isList fun h' he hit hsz hk => wpAny_pyIter_enum he ?_
    have I2 : Inv X pins σ H1 { s1 with heap := h' } := I1.kept (t' := s1.toks) hk
    refine ⟨s1.heap.objs.size + 1, [s1.heap.objs.size + 1, s1.heap.objs.size], _, _, H1, rfl, I2, turn_enum a (s1.heap.objs.size + 1) s1.heap.objs.size, ⟨⟨.none, he⟩, hit, Nat.succ_ne_self _⟩, fun b hb => ?_, q⟩
    have e' : b = s1.heap.objs.size + 1 ∨ b = s1.heap.objs.size := by simpa using hb
    have hle : s1.heap.objs.size ≤ b := by
      rcases e' with z | z
      · rw [z]; exact Nat.le_add_right _ _
      · rw [z]; exact Nat.le_refl _
    exact I1.fpOk hle (I1.hok.fresh hle)
theorem boot_zip5 : bootBuiltins "zip" = some (.type "zip") := by decide +kernel
def Itz (K : PySem.W.Frag) (a b : Addr) : It :=
  ⟨fun i H => ∃ (xs ys : List V) (x y : V), SqL K H a xs ∧ SqL K H b ys ∧ xs[i]? = some x ∧ ys[i]? = some y,
    fun i H v H' => ∃ T x y, v = .ref T ∧ H T = none ∧ H' = upd H T (.tup [x, y]) ∧ (∀ xs, SqL K H a xs → xs[i]? = some x) ∧ ∀ ys, SqL K H b ys → ys[i]? = some y,
    fun i H => ∃ xs ys : List V, SqL K H a xs ∧ SqL K H b ys ∧ (xs.length ≤ i ∨ ys.length ≤ i)⟩
theorem turn_zip {P : Program} {w : World} {K : PySem.W.Frag} {elts : List Expr} {kk : Nat} {tpos : Pos} {a b z TI TO i1 i2 : Addr} (D : ZipApart z TI TO i1 i2 a b) :
    Turn P w K (.Tuple elts kk tpos) (Itz K a b) [z, TI, TO, i1, i2] z (fun i h => IsZip h z TI TO .none ∧ IsPair h TI (.ref i1) (.ref i2) ∧ (∃ x y, IsPair h TO x y) ∧ h.IsListIter i1 a i ∧ h.IsListIter i2 b i) where
  mem := by simp
  obj := fun i h st c hc => by
    obtain ⟨hz, hTI, ⟨x, y, hTO⟩, ⟨o1, e1, _, d1⟩, ⟨o2, e2, _, d2⟩⟩ := st
    have e' : c = z ∨ c = TI ∨ c = TO ∨ c = i1 ∨ c = i2 := by simpa using hc
    rcases e' with q | q | q | q | q
    · rw [q]; exact ⟨_, hz, fun v q => nomatch q⟩
    · rw [q]; exact ⟨_, hTI, fun v q => nomatch q⟩
    · rw [q]; exact ⟨_, hTO, fun v q => nomatch q⟩
    · rw [q]; exact ⟨o1, e1, fun v q => by rw [d1] at q; cases q⟩
    · rw [q]; exact ⟨o2, e2, fun v q => by rw [d2] at q; cases q⟩
  keep := fun i h h' st k => by
    obtain ⟨hz, hTI, ⟨x, y, hTO⟩, h1, h2⟩ := st
    exact ⟨k z (by simp) _ hz, k TI (by simp) _ hTI, ⟨x, y, k TO (by simp) _ hTO⟩, h1.at fun o q => k i1 (by simp) o q, h2.at fun o q => k i2 (by simp) o q⟩
  item := by
    intro X hP hw hK hc i pins s σ H E I hf st hg
    subst hP hw hK
    obtain ⟨hz, hTI, ⟨x0, y0, hTO⟩, h1, h2⟩ := st
    obtain ⟨xs, ys, x, y, hqx, hqy, hx, hy⟩ := hg
    obtain ⟨its, rv, p, _⟩ := I.list hqx
    obtain ⟨its2, rv2, p2, _⟩ := I.list hqy
    obtain ⟨u, hu, ru⟩ := rv.get hx
    obtain ⟨u2, hu2, ru2⟩ := rv2.get hy
    have hzl : z < s.heap.objs.size := Heap.lt_size hz
    refine wpAny_pyNext_zip_item D hz hTI hTO h1 h2 p.isList p2.isList (x := u) (y := u2) (by simpa using hu) (by simpa using hu2) fun h' z' TO' h1' h2' hT hsz hk => ?_
    refine ⟨_, rfl, wpAny_letOwnedTupleGo_zip (s := { s with heap := h' }) z' fun h'' z'' sb => ?_⟩
    have hT2 : h''.get? s.heap.objs.size = some { cls := .type "tuple", data := .seq #[u, u2] } := (sb.2 _ (Nat.ne_of_gt hzl)).trans hT
    have new : ObjOk X.prog X.w (upd H s.heap.objs.size (.tup [x, y])) h'' s.heap.objs.size (.tup [x, y]) :=
      ⟨by show 2 ≤ sizeLine; decide, [u, u2], .cons ru (.cons ru2 .nil), ⟨_, hT2, rfl, _, rfl⟩⟩
    have I1 : Inv X pins σ (upd H s.heap.objs.size (.tup [x, y])) { s with heap := h'' } :=
      I.turnedNew (t' := s.toks) (ch := [z, TI, TO, i1, i2]) (fun c o hb q => (sb.2 c (fun q' => hb (by simp [q']))).trans (hk c o (fun q' => hb (by simp [q'])) (fun q' => hb (by simp [q'])) (fun q' => hb (by simp [q'])) (fun q' => hb (by simp [q'])) q)) hf (Nat.le_refl _) new
    refine ⟨.ref s.heap.objs.size, _, I1, rfl, ⟨_, x, y, rfl, I.hok.fresh (Nat.le_refl _), rfl, fun l hl => by rw [I.list_inj hl hqx]; exact hx, fun l hl => by rw [I.list_inj hl hqy]; exact hy⟩, ⟨z'', ?_, ⟨u, u2, ?_⟩, ?_, ?_⟩, fun c hcm => ?_⟩
    · exact (sb.2 _ D.TIz).trans (hk _ _ D.TIz D.TITO D.TIi1 D.TIi2 hTI)
    · exact (sb.2 _ D.TOz).trans TO'
    · exact h1'.at fun o q => (sb.2 _ D.i1z).trans q
    · exact h2'.at fun o q => (sb.2 _ D.i2z).trans q
    · have hlt : c < s.heap.objs.size := by
        have e' : c = z ∨ c = TI ∨ c = TO ∨ c = i1 ∨ c = i2 := by simpa using hcm
        rcases e' with q | q | q | q | q
        · rw [q]; exact hzl
        · rw [q]; exact Heap.lt_size hTI
        · rw [q]; exact Heap.lt_size hTO
        · rw [q]; obtain ⟨_, e1, _⟩ := h1; exact Heap.lt_size e1
        · rw [q]; obtain ⟨_, e2, _⟩ := h2; exact Heap.lt_size e2
      rw [upd_ne (Nat.ne_of_lt hlt)]
      exact (hf c hcm).1
  done := by
    intro X hP hw hK hc i pins s σ H E I hf st hg
    subst hP hw hK
    obtain ⟨hz, hTI, ⟨x0, y0, hTO⟩, h1, h2⟩ := st
    obtain ⟨xs, ys, hqx, hqy, hend⟩ := hg
    obtain ⟨its, rv, p, _⟩ := I.list hqx
    obtain ⟨its2, rv2, p2, _⟩ := I.list hqy
    have l1 := rv.length
    have l2 := rv2.length
    have he : its.toArray[i]? = none ∨ its2.toArray[i]? = none := by
      rcases hend with q | q
      · exact .inl (by simp; omega)
      · exact .inr (by simp; omega)
    exact wpAny_pyNext_zip_end (I.ok.hd hc) D hz hTI hTO h1 h2 p.isList p2.isList he fun h' hk => ⟨rfl, I.turnedL (t' := s.toks) (ch := [z, TI, TO, i1, i2]) (fun c o hb q =>
      hk c o (fun q' => hb (by simp [q'])) (fun q' => hb (by simp [q'])) (fun q' => hb (by simp [q'])) (fun q' => hb (by simp [q'])) q) hf⟩
  self := fun A i s Q E st h => wpAny_pyIter_zip st.1 h
def iZip (K : PySem.W.Frag) (ta : TA) : TI := fun σ H R => ta σ H fun vs H1 => ∃ a b xs ys, vs = [.ref a, .ref b] ∧ SqL K H1 a xs ∧ SqL K H1 b ys ∧ R (Itz K a b) H1
theorem pi_zip {X : Cx} {e e2 : Expr} {ta : TA} {p pos tpos : Pos} {elts : List Expr} {kk : Nat} (hg : Gl X "zip") (hm : X.mg "zip" = none) (ha : PA X [e, e2] ta)
    (hs : starEach [e, e2] X.env = (false, eval e X.env) :: starEach [e2] X.env := by rfl) (hpl : (backTo pos (starEach [e2] X.env)).any (·.1) = false := by rfl) :
    PI X (.Tuple elts kk tpos) (.Call (.Name "zip" p) [e, e2] [] pos) (iZip X.K ta) := by
  intro pins s σ H R I h
  refine Call_ (ld_blt I hg hm boot_zip5 (PyProof.Rows.callWith_type1 (thn (ha pos pins s σ H _ I h) fun us s1 ⟨vs, H1, I1, r1, q1⟩ => ?_) hs hpl))
  obtain ⟨a, b, xs, ys, ex, hqx, hqy, q⟩ := q1
  subst ex
  cases r1 with
  | cons r rr =>
    cases rr with
    | cons r' rr =>
      cases rr
      cases r
      cases r'
      obtain ⟨its, rv, p1, _⟩ := I1.list hqx
      obtain ⟨its2, rv2, p2, _⟩ := I1.list hqy
      have la : a < s1.heap.objs.size := p1.lt
      have lb : b < s1.heap.objs.size := p2.lt
      refine call_zip_2 p1.isList p2.isList fun h' hz hTI hTO h1 h2 hsz hk => wpAny_pyIter_zip hz ?_
      have I2 : Inv X pins σ H1 { s1 with heap := h' } := I1.kept (t' := s1.toks) hk
      refine ⟨s1.heap.objs.size + 4, [s1.heap.objs.size + 4, s1.heap.objs.size + 2, s1.heap.objs.size + 3, s1.heap.objs.size, s1.heap.objs.size + 1], _, _, H1, rfl, I2, turn_zip (PySem.W.ktu_apart s1.heap.objs.size a b la lb), ⟨hz, hTI, ⟨_, _, hTO⟩, h1, h2⟩, fun c hcm => ?_, q⟩
      have e' : c = s1.heap.objs.size + 4 ∨ c = s1.heap.objs.size + 2 ∨ c = s1.heap.objs.size + 3 ∨ c = s1.heap.objs.size ∨ c = s1.heap.objs.size + 1 := by simpa using hcm
      have hle : s1.heap.objs.size ≤ c := by
        rcases e' with z | z | z | z | z
        · rw [z]; exact Nat.le_add_right _ _
        · rw [z]; exact Nat.le_add_right _ _
        · rw [z]; exact Nat.le_add_right _ _
        · rw [z]; exact Nat.le_refl _
        · rw [z]; exact Nat.le_add_right _ _
      exact I1.fpOk hle (I1.hok.fresh hle)
end L2
section 
namespace Bits
open PySem PyProof.Rows
end Bits
end 
section 
namespace TL
open PySem PySem.Builtin PySem.Builtin.Str PySem.StrLaws
abbrev tl (x : Str) : List Nat := x.cps.toList
theorem len_tl (x : Str) : x.length = (tl x).length := by simp [tl, Str.length]
def pre (S l : List Nat) : Bool := l.take S.length == S
def par (S : List Nat) : List Nat → List Nat → Option (List Nat × List Nat)
  | _, [] => none
  | acc, c :: r => if pre S (c :: r) = true then some (acc, (c :: r).drop S.length) else par S (acc ++ [c]) r
theorem len1 {y : Str} (hy : tl y ≠ []) : 1 ≤ y.length := by
  have e2 : 0 < (tl y).length := List.length_pos_iff.mpr hy
  rw [len_tl y]
  exact e2
end TL
end 
namespace L2
open PySem PySem.Spec PyProof.Rows
section
variable {X : Cx} {pins : List (Addr × Obj)} {σ : St} {H : Hp} {s : Shared} {Q : VK}
end
section
variable {X : Cx}
end
section
variable {X : Cx} {o e : Expr} {to te : TE}
end
end L2
namespace L2
open PySem PySem.Spec PyProof.Rows
section
variable {X : Cx}
end
end L2
namespace Att
open PySem PySem.W PySem.Calls PyProof.Rows
section
variable {prog : Program} {w : World} {A : Around} {E : Value → Shared → Prop} {s : Shared} {K : Frag}
end
end Att
namespace L2
open PySem PySem.Spec PyProof.Rows
end L2
namespace L2
open PySem PySem.Spec PyProof.Rows
end L2
namespace L2
open PySem PySem.Spec PyProof.Rows
def inClass (s : Stmt) (j : Nat) : Stmt := match s with
  | .ClassDef _ _ _ body _ _ _ _ _ _ _ => body.getD j (.Pass ⟨0, 0, 0, 0⟩)
  | _ => .Pass ⟨0, 0, 0, 0⟩
def defArgs (s : Stmt) : Arguments := match s with
  | .FunctionDef _ a _ _ _ _ _ _ _ _ => a
  | _ => { posonlyargs := [], args := [], vararg := none, kwonlyargs := [], kw_defaults := [], kwarg := none, defaults := [] }
def defBody (s : Stmt) : List Stmt := match s with
  | .FunctionDef _ _ b _ _ _ _ _ _ _ => b
  | _ => []
def defScope (s : Stmt) : Scope := match s with
  | .FunctionDef _ _ _ _ _ _ sc _ _ _ => sc
  | _ => { kind := .function, names := [], isGenerator := false, isCoroutine := false }
abbrev CX0 : CXT := fun _ _ _ _ _ _ => False
abbrev E0 : XK := fun _ _ _ => False
theorem pass0 {X : Cx} : Passes CX0 X E0 := fun _ _ _ _ _ _ _ h => h.elim
structure Fun (K : PySem.W.Frag) (x qual : Str) (st : Stmt) (f : Addr) (fd : FuncData) : Prop where
  ex : ∃ (oc : Value) (od : Option Addr) (kV doc pm : Value) (an : Option Addr) (cdv ct : Value) (osl : Array (Option Value)),
    fd = PySem.W.fnOf x qual (defArgs st) (defBody st) (defScope st) .none kV doc pm an cdv ct ∧ K.lookup f = some ⟨oc, od, .func fd, osl⟩ ∧ PySem.W.codeIn K cdv qual = true
  kp : PySem.W.keepIn K (.ref f) = true
section
variable {P : Program} {w : World} {K : PySem.W.Frag} {mg : Str → Option Value} {base : Heap}
theorem Fun.ok {x qual : Str} {st : Stmt} {f : Addr} {fd : FuncData} {N ps : List Str} {k : Nat} {sp : Sp} (F : Fun K x qual st f fd) (S : FnScope N ps (defScope st)) (len : ∀ vs H Q E, sp vs H Q E → vs.length = ps.length)
    (hbody : ∀ (cdv : Value) (A : Around) (outer : List Env) (s : Shared) (H : Hp) (vs : List V) (Q : VK) (E : XK), Room k (A.deeper (envOfC qual (defScope st) s.heap.objs.size f cdv)) → sp vs H Q E →
      ∃ t, PSs (cxOf CX0 P w K mg base N qual (defScope st) f cdv A outer s H E).nox (defBody st) t ∧ t { nx := fun _ H' => Q .non H', rt := Q } (start N vs) H) : FnOk P w K mg base CX0 (k + 1) f fd ps sp := by
  obtain ⟨oc, od, kV, doc, pm, an, cdv, ct, osl, rfl, lk, hcd⟩ := F.ex
  refine fn_of lk hcd S len fun A outer s H vs Q E hr hsp => ?_
  obtain ⟨t, h, q⟩ := hbody cdv A outer s H vs Q E hr hsp
  exact ⟨t, h.nox, q⟩
theorem Fun.binds {x qual : Str} {st : Stmt} {f : Addr} {fd : FuncData} {ps : List Str} (F : Fun K x qual st f fd)
    (h : ∀ (kV doc pm : Value) (an : Option Addr) (cdv ct : Value) (us : List Value), us.length = ps.length → bindArgs (PySem.W.fnOf x qual (defArgs st) (defBody st) (defScope st) .none kV doc pm an cdv ct) ⟨us, []⟩ = pure (ps.zip us)) : Binds K fd ps [] := by
  obtain ⟨oc, od, kV, doc, pm, an, cdv, ct, osl, rfl, lk, hcd⟩ := F.ex
  exact .all (h kV doc pm an cdv ct)
theorem fun_mk {x qual : Str} {st : Stmt} {f : Addr} {oc : Value} {od an : Option Addr} {osl : Array (Option Value)} {kV doc pm cdv ct : Value} (l : K.lookup f = some ⟨oc, od, .func (PySem.W.fnOf x qual (defArgs st) (defBody st) (defScope st) .none kV doc pm an cdv ct), osl⟩)
    (c : PySem.W.codeIn K cdv qual = true) (k : PySem.W.keepIn K (.ref f) = true) : Fun K x qual st f (PySem.W.fnOf x qual (defArgs st) (defBody st) (defScope st) .none kV doc pm an cdv ct) := ⟨⟨oc, od, kV, doc, pm, an, cdv, ct, osl, rfl, l, c⟩, k⟩
end
section
variable {X : Cx}
theorem pv (i : Nat) {x : Str} {pos : Pos} (hN : X.N[i]? = some x := by rfl) (hv : Vis X.env.scope x := by first | exact Or.inl rfl | exact Or.inr (Or.inl rfl) | exact Or.inr (Or.inr rfl)) (hd : (x == ("__debug__" : Str)) = false := by decide)
    (hcd : (x == ("__classdict__" : Str)) = false := by decide) : PE X (.Name x pos) (tVar i) := pe_var hN hv hd hcd
end
def Same (H H' : Hp) : Prop := ∀ b o, H b = some o → H' b = some o
theorem Same.refl (H : Hp) : Same H H := fun _ _ h => h
theorem Same.trans {H H1 H2 : Hp} (a : Same H H1) (b : Same H1 H2) : Same H H2 := fun c o h => b c o (a c o h)
theorem Same.free {H H' : Hp} (e : Same H H') {l : Addr} (h : H' l = Option.none) : H l = Option.none := by
  cases q : H l with
  | none => rfl
  | some o =>
    rw [e l o q] at h
    cases h
theorem Same.seq {K : PySem.W.Frag} {H H' : Hp} {a : Addr} {xs : List V} (e : Same H H') (h : SqL K H a xs) : SqL K H' a xs := by
  rcases h with (h | ⟨o, h⟩) | h
  · exact .inl (.inl (e _ _ h))
  · exact .inl (.inr ⟨o, e _ _ h⟩)
  · exact .inr h
section
variable {κ : Type} [DecidableEq κ]
end
theorem Same.made {H H1 : Hp} {x dx C : Addr} (nx : H x = Option.none) (nd : H dx = Option.none) (k : ∀ b o, (upd (upd H dx (.own x)) x (.ins C dx [])) b = some o → b ≠ x → H1 b = some o) : Same H H1 := fun b o e =>
  k b o (by rw [upd_ne (ne_of_none e nx), upd_ne (ne_of_none e nd)]; exact e) (ne_of_none e nx)
end L2

section
set_option Elab.async false
set_option linter.all false
set_option maxRecDepth 100000
set_option maxHeartbeats 2000000
namespace L2
open PySem PySem.Spec PyProof.Rows
open PySem.W (WData Codec OpenSpec Well WellAll ReadsW ReadsAllW)
/-! ### an answer as data -/
mutual
/-- x stands for the datum d, lists and tuples all the way -/
inductive Dw (K : PySem.W.Frag) (H : Hp) : V → WData → Prop
  | non : Dw K H .non .none
  | bl (b : Bool) : Dw K H (.bl b) (.bool b)
  | int (i : Int) : Dw K H (.int i) (.int i)
  | str (x : Str) : Dw K H (.str x) (.str x)
  | byt (b : Array UInt8) : Dw K H (.byt b) (.bytes b.toList)
  | lst {a : Addr} {xs : List V} {ds : List WData} : SqL K H a xs → DwAll K H xs ds → Dw K H (.ref a) (.list ds)
  | tup {a : Addr} {xs : List V} {ds : List WData} : SqT K H a xs → DwAll K H xs ds → Dw K H (.ref a) (.tuple ds)
inductive DwAll (K : PySem.W.Frag) (H : Hp) : List V → List WData → Prop
  | nil : DwAll K H [] []
  | cons {v : V} {vs : List V} {d : WData} {ds : List WData} : Dw K H v d → DwAll K H vs ds → DwAll K H (v :: vs) (d :: ds)
end
theorem dw_ints {K : PySem.W.Frag} {H : Hp} : ∀ ns : List Int, DwAll K H (ns.map V.int) (ns.map WData.int)
  | [] => .nil
  | n :: r => .cons (.int n) (dw_ints r)
theorem ints_dw {K : PySem.W.Frag} {H : Hp} : ∀ (ns : List Int) (xs : List V), DwAll K H xs (ns.map WData.int) → xs = ns.map V.int
  | [], xs, h => by
    cases h
    rfl
  | n :: r, xs, h => by
    cases h with
    | cons h1 h2 =>
      cases h1
      rw [ints_dw r _ h2] <;> rfl
section
variable {P : Program} {w : World} {K : PySem.W.Frag} {H : Hp} {h : Heap} {R : PySem.W.WRecords} {cl : Str → Option Addr}
theorem sqL_at {a : Addr} {xs : List V} (hok : HOk P w H h) (KX : K.In h) (q : SqL K H a xs) : ∃ (its : List Value) (o : Obj) (n : Nat), Vals xs its ∧ h.get? a = some o ∧ o.cls = .type "list" ∧ o.data = .seq its.toArray n := by
  rcases q with q | ⟨o, its, n, e, hc, _, hd, _, hv⟩
  · obtain ⟨_, its, n, hv, e⟩ := (show ObjOk P w H h a (.lst xs) from q.ok hok)
    exact ⟨its, _, n, hv, e, rfl, rfl⟩
  · exact ⟨its.toList, o, n, hv, KX _ _ e, hc, by simp [hd]⟩
theorem sqT_at {a : Addr} {xs : List V} (hok : HOk P w H h) (KX : K.In h) (q : SqT K H a xs) : ∃ (its : List Value) (o : Obj) (n : Nat), Vals xs its ∧ h.get? a = some o ∧ o.cls = .type "tuple" ∧ o.data = .seq its.toArray n := by
  rcases q with q | ⟨o, its, n, e, hc, hd, _, hv⟩
  · obtain ⟨_, its, hv, o, e, hc, n, hd⟩ := (show ObjOk P w H h a (.tup xs) from q.ok hok)
    exact ⟨its, o, n, hv, e, hc, hd⟩
  · exact ⟨its.toList, o, n, hv, KX _ _ e, hc, by simp [hd]⟩
mutual
theorem Dw.reads (hok : HOk P w H h) (KX : K.In h) : ∀ (d : WData) (v : V) (u : Value), Dw K H v d → RelV v u → ∃ as, ReadsW R cl h u d as
  | .none, _, _, x, r => by
    cases x
    cases r
    exact ⟨_, ReadsW.none⟩
  | .bool b, _, _, x, r => by
    cases x
    cases r
    exact ⟨_, ReadsW.bool b⟩
  | .int i, _, _, x, r => by
    cases x
    obtain ⟨t, rfl⟩ := r
    exact ⟨_, ReadsW.int i t⟩
  | .str s, _, _, x, r => by
    cases x
    obtain ⟨t, rfl⟩ := r
    exact ⟨_, ReadsW.str s t⟩
  | .bytes b, _, _, x, r => by
    cases x
    obtain ⟨t, rfl⟩ := r
    exact ⟨_, ReadsW.bytes _ t⟩
  | .list ds, _, _, x, r => by
    cases x with
    | lst hs ha =>
      cases r
      obtain ⟨its, o, n, rv, ho, hc, hd⟩ := sqL_at hok KX hs
      obtain ⟨as, hr⟩ := Dw.readsAll hok KX ds _ its ha rv
      exact ⟨_, ReadsW.list ho hc hd hr⟩
  | .tuple ds, _, _, x, r => by
    cases x with
    | tup hs ha =>
      cases r
      obtain ⟨its, o, n, rv, ho, hc, hd⟩ := sqT_at hok KX hs
      obtain ⟨as, hr⟩ := Dw.readsAll hok KX ds _ its ha rv
      exact ⟨_, ReadsW.tuple ho hc hd hr⟩
  | .float _, _, _, x, _ => by cases x
  | .dict _, _, _, x, _ => by cases x
  | .bytearray _, _, _, x, _ => by cases x
  | .set _, _, _, x, _ => by cases x
  | .frozenset _, _, _, x, _ => by cases x
  | .obj _ _, _, _, x, _ => by cases x
theorem Dw.readsAll (hok : HOk P w H h) (KX : K.In h) : ∀ (ds : List WData) (vs : List V) (us : List Value), DwAll K H vs ds → Vals vs us → ∃ as, ReadsAllW R cl h us ds as
  | [], _, _, x, r => by
    cases x
    cases r
    exact ⟨_, ReadsAllW.nil⟩
  | d :: ds, _, _, x, r => by
    cases x with
    | cons h1 h2 =>
      cases r with
      | cons r1 r2 =>
        obtain ⟨as, q1⟩ := Dw.reads hok KX d _ _ h1 r1
        obtain ⟨bs, q2⟩ := Dw.readsAll hok KX ds _ _ h2 r2
        exact ⟨_, ReadsAllW.cons q1 q2⟩
end
end
/-! ### the arguments -/
mutual
/-- data that a codec tells -/
def plW : WData → Bool
  | .none => true
  | .bool _ => true
  | .int _ => true
  | .str _ => true
  | .bytes _ => true
  | .list xs => plWs xs
  | .tuple xs => plWs xs
  | _ => false
def plWs : List WData → Bool
  | [] => true
  | x :: r => plW x && plWs r
end
theorem plWs_map {α : Type} {f : α → WData} (h : ∀ a, plW (f a) = true) : ∀ l : List α, plWs (l.map f) = true
  | [] => rfl
  | x :: r => by
    show (plW (f x) && plWs (r.map f)) = true
    rw [h x, plWs_map h r] <;> rfl
theorem pl_enc : ∀ (c : Codec) (a : c.denote), plW (c.enc a) = true
  | .unit, _ => rfl
  | .bool, _ => rfl
  | .int _ _, _ => rfl
  | .nat _ _, _ => rfl
  | .u8, _ => rfl
  | .bytes _ _, _ => rfl
  | .text _ _ _ _, _ => rfl
  | .list _ _ c, a => plWs_map (fun x => pl_enc c x) a
  | .pair c d, a => by
    show (plW (c.enc a.1) && (plW (d.enc a.2) && true)) = true
    rw [pl_enc c a.1, pl_enc d a.2] <;> rfl
  | .triple c d e, a => by
    show (plW (c.enc a.1) && (plW (d.enc a.2.1) && (plW (e.enc a.2.2) && true))) = true
    rw [pl_enc c a.1, pl_enc d a.2.1, pl_enc e a.2.2] <;> rfl
  | .option c, none => rfl
  | .option c, some x => pl_enc c x
theorem pl_encAll : ∀ (cs : List Codec) (a : Codec.denoteAll cs), plWs (Codec.encAll cs a) = true
  | [], _ => rfl
  | c :: cs, a => by
    show (plW (c.enc a.1) && plWs (Codec.encAll cs a.2)) = true
    rw [pl_enc c a.1, pl_encAll cs a.2] <;> rfl
theorem weight_mem : ∀ {xs : List WData} {d : WData}, d ∈ xs → d.weight ≤ WData.weightAll xs
  | [], d, h => absurd h (by simp)
  | x :: r, d, h => by
    show d.weight ≤ x.weight + 1 + WData.weightAll r
    rcases List.mem_cons.mp h with e | m
    · rw [e]
      omega
    · have z := weight_mem m
      omega
def toV : Value → V
  | .none => .non
  | .bool b => .bl b
  | .int i _ => .int i
  | .str x _ => .str x
  | .bytes b _ => .byt b
  | .ref a => .ref a
  | _ => .non
/-- a value of the arguments, its objects among A -/
def OkU (A : List Addr) : Value → Prop
  | .none => True
  | .bool _ => True
  | .int _ _ => True
  | .str _ _ => True
  | .bytes _ _ => True
  | .ref a => a ∈ A
  | _ => False
theorem OkU.mono {A B : List Addr} (h : ∀ a ∈ A, a ∈ B) : ∀ {u : Value}, OkU A u → OkU B u := fun {u} x => by
  cases u with
  | ref a => exact h a x
  | none => trivial
  | bool b => trivial
  | int i t => trivial
  | str s t => trivial
  | bytes b t => trivial
  | _ => exact False.elim x
theorem relV_toV {A : List Addr} {u : Value} (x : OkU A u) : RelV (toV u) u := by
  cases u with
  | ref a => rfl
  | none => rfl
  | bool b => rfl
  | int i t => exact ⟨t, rfl⟩
  | str s t => exact ⟨t, rfl⟩
  | bytes b t => exact ⟨t, rfl⟩
  | _ => exact False.elim x
theorem vals_toV {A : List Addr} : ∀ {vs : List Value}, (∀ u ∈ vs, OkU A u) → Vals (vs.map toV) vs
  | [], _ => .nil
  | u :: r, h => .cons (relV_toV (h u (List.mem_cons_self ..))) (vals_toV fun x hx => h x (List.mem_cons_of_mem _ hx))
/-- an object of the arguments -/
def ArgOb (h : Heap) (A : List Addr) (a : Addr) : Prop := ∃ vs : List Value, vs.length ≤ sizeLine ∧ (∀ u ∈ vs, OkU A u) ∧
  (h.get? a = some { cls := .type "list", data := .seq vs.toArray } ∨ h.get? a = some { cls := .type "tuple", data := .seq vs.toArray })
theorem ArgOb.mono {h : Heap} {A B : List Addr} {a : Addr} (k : ∀ a ∈ A, a ∈ B) (x : ArgOb h A a) : ArgOb h B a := by
  obtain ⟨vs, h1, h2, h3⟩ := x
  exact ⟨vs, h1, fun u hu => (h2 u hu).mono k, h3⟩
theorem wellAll_len {P : Params} {h : Heap} : ∀ {vs : List Value} {ds : List WData}, WellAll P h vs ds → vs.length = ds.length
  | _, _, .nil => rfl
  | _, _, .cons _ b => by
    show _ + 1 = _ + 1
    rw [wellAll_len b]
theorem well_list {P : Params} {h : Heap} {v : Value} {ds : List WData} (x : Well P h v (.list ds)) : ∃ (a : Addr) (vs : List Value), v = .ref a ∧ h.get? a = some { cls := .type "list", data := .seq vs.toArray } ∧ WellAll P h vs ds := by
  cases x with
  | list ho hall => exact ⟨_, _, rfl, ho, hall⟩
theorem well_tuple {P : Params} {h : Heap} {v : Value} {ds : List WData} (x : Well P h v (.tuple ds)) : ∃ (a : Addr) (vs : List Value), v = .ref a ∧ h.get? a = some { cls := .type "tuple", data := .seq vs.toArray } ∧ WellAll P h vs ds := by
  cases x with
  | tuple ho hall => exact ⟨_, _, rfl, ho, hall⟩
theorem well_cons {P : Params} {h : Heap} {us : List Value} {d : WData} {ds : List WData} (x : WellAll P h us (d :: ds)) : ∃ (v : Value) (vs : List Value), us = v :: vs ∧ Well P h v d ∧ WellAll P h vs ds := by
  cases x with
  | cons a b => exact ⟨_, _, rfl, a, b⟩
theorem line_of {n : Nat} (h : n ≤ 1048576) : n ≤ sizeLine := Nat.le_trans h (by decide)
section
variable {P : Params} {h : Heap}
mutual
theorem area_one : ∀ (d : WData) (v : Value), Well P h v d → plW d = true → d.weight ≤ 1048576 → ∃ A : List Addr, OkU A v ∧ ∀ a ∈ A, ArgOb h A a
  | .none, _, x, _, _ => by
    cases x
    exact ⟨[], trivial, fun a m => absurd m (by simp)⟩
  | .bool b, _, x, _, _ => by
    cases x
    exact ⟨[], trivial, fun a m => absurd m (by simp)⟩
  | .int i, _, x, _, _ => by
    cases x
    exact ⟨[], trivial, fun a m => absurd m (by simp)⟩
  | .str s, _, x, _, _ => by
    cases x
    exact ⟨[], trivial, fun a m => absurd m (by simp)⟩
  | .bytes b, _, x, _, _ => by
    cases x
    exact ⟨[], trivial, fun a m => absurd m (by simp)⟩
  | .list ds, _, x, p, z => by
    obtain ⟨a, vs, rfl, ho, hall⟩ := well_list x
    have z2 : WData.weightAll ds ≤ 1048576 := z
    obtain ⟨A, h1, h2⟩ := area_all ds _ hall p fun d hd => Nat.le_trans (weight_mem hd) z2
    have k : ∀ b ∈ A, b ∈ a :: A := fun b hb => List.mem_cons_of_mem _ hb
    refine ⟨a :: A, List.mem_cons_self .., fun b hb => ?_⟩
    rcases List.mem_cons.mp hb with e | m
    · rw [e]
      exact ⟨vs, line_of (by rw [wellAll_len hall]; exact Nat.le_trans (PySem.W.length_le_weightAllW ds) z2), fun u hu => (h1 u hu).mono k, .inl ho⟩
    · exact (h2 b m).mono k
  | .tuple ds, _, x, p, z => by
    obtain ⟨a, vs, rfl, ho, hall⟩ := well_tuple x
    have z2 : WData.weightAll ds ≤ 1048576 := z
    obtain ⟨A, h1, h2⟩ := area_all ds _ hall p fun d hd => Nat.le_trans (weight_mem hd) z2
    have k : ∀ b ∈ A, b ∈ a :: A := fun b hb => List.mem_cons_of_mem _ hb
    refine ⟨a :: A, List.mem_cons_self .., fun b hb => ?_⟩
    rcases List.mem_cons.mp hb with e | m
    · rw [e]
      exact ⟨vs, line_of (by rw [wellAll_len hall]; exact Nat.le_trans (PySem.W.length_le_weightAllW ds) z2), fun u hu => (h1 u hu).mono k, .inr ho⟩
    · exact (h2 b m).mono k
  | .float _, _, _, p, _ => Bool.noConfusion (show false = true from p)
  | .dict _, _, _, p, _ => Bool.noConfusion (show false = true from p)
  | .bytearray _, _, _, p, _ => Bool.noConfusion (show false = true from p)
  | .set _, _, _, p, _ => Bool.noConfusion (show false = true from p)
  | .frozenset _, _, _, p, _ => Bool.noConfusion (show false = true from p)
  | .obj _ _, _, _, p, _ => Bool.noConfusion (show false = true from p)
theorem area_all : ∀ (ds : List WData) (vs : List Value), WellAll P h vs ds → plWs ds = true → (∀ d ∈ ds, d.weight ≤ 1048576) → ∃ A : List Addr, (∀ u ∈ vs, OkU A u) ∧ ∀ a ∈ A, ArgOb h A a
  | [], _, x, _, _ => by
    cases x
    exact ⟨[], fun u m => absurd m (by simp), fun a m => absurd m (by simp)⟩
  | d :: ds, _, x, p, z => by
    obtain ⟨v, vs, rfl, x1, x2⟩ := well_cons x
    have q : plW d = true ∧ plWs ds = true := Bool.and_eq_true_iff.mp p
    obtain ⟨A, a1, a2⟩ := area_one d v x1 q.1 (z d (List.mem_cons_self ..))
    obtain ⟨B, b1, b2⟩ := area_all ds vs x2 q.2 fun e he => z e (List.mem_cons_of_mem _ he)
    have kA : ∀ b ∈ A, b ∈ A ++ B := fun b hb => List.mem_append.mpr (.inl hb)
    have kB : ∀ b ∈ B, b ∈ A ++ B := fun b hb => List.mem_append.mpr (.inr hb)
    refine ⟨A ++ B, fun u hu => ?_, fun b hb => ?_⟩
    · rcases List.mem_cons.mp hu with e | m
      · rw [e]
        exact a1.mono kA
      · exact (b1 u m).mono kB
    · rcases List.mem_append.mp hb with m | m
      · exact (a2 b m).mono kA
      · exact (b2 b m).mono kB
end
end
/-- what is tracked of an argument's object -/
def hoOf (o : Obj) : Option HO := match o.data with
  | .seq vs _ => if (o.cls == Value.type "list") = true then some (.frz o (.lst (vs.toList.map toV))) else some (.frz o (.tup (vs.toList.map toV)))
  | _ => none
def argH (K : PySem.W.Frag) (h : Heap) (A : List Addr) : Hp := fun b => if b ∈ A then (if (K.lookup b).isNone = true then (h.get? b).bind hoOf else none) else none
/-- nothing is tracked but what is known to the object -/
def OnlyF (H : Hp) : Prop := ∀ b, H b = none ∨ ∃ o u, H b = some (.frz o u)
theorem hoOf_lst (vs : List Value) : hoOf { cls := .type "list", data := .seq vs.toArray } = some (.frz { cls := .type "list", data := .seq vs.toArray } (.lst (vs.map toV))) := by
  show (if (Value.type "list" == Value.type "list") = true then some (HO.frz { cls := .type "list", data := .seq vs.toArray } (.lst (vs.toArray.toList.map toV))) else some (HO.frz { cls := .type "list", data := .seq vs.toArray } (.tup (vs.toArray.toList.map toV)))) = _
  rw [if_pos (beq_self_eq_true _)]
theorem hoOf_tup (vs : List Value) : hoOf { cls := .type "tuple", data := .seq vs.toArray } = some (.frz { cls := .type "tuple", data := .seq vs.toArray } (.tup (vs.map toV))) := by
  show (if (Value.type "tuple" == Value.type "list") = true then some (HO.frz { cls := .type "tuple", data := .seq vs.toArray } (.lst (vs.toArray.toList.map toV))) else some (HO.frz { cls := .type "tuple", data := .seq vs.toArray } (.tup (vs.toArray.toList.map toV)))) = _
  rw [if_neg (by decide)]
section
variable {P : Program} {w : World} {K : PySem.W.Frag} {h : Heap} {A : List Addr}
theorem argH_at {b : Addr} {o : Obj} (hb : b ∈ A) (hk : K.lookup b = none) (e : h.get? b = some o) : argH K h A b = hoOf o := by
  unfold argH
  rw [if_pos hb, hk, if_pos (show (none : Option Obj).isNone = true from rfl), e] <;> rfl
theorem of_argH {b : Addr} {u : HO} (q : argH K h A b = some u) : b ∈ A ∧ K.lookup b = none := by
  unfold argH at q
  by_cases hb : b ∈ A
  · rw [if_pos hb] at q
    cases hk : K.lookup b with
    | none => exact ⟨hb, rfl⟩
    | some o =>
      rw [hk, if_neg (by simp)] at q
      cases q
  · rw [if_neg hb] at q
    cases q
/-- what stands tracked -/
theorem argH_is (ar : ∀ a ∈ A, ArgOb h A a) {b : Addr} {u : HO} (q : argH K h A b = some u) : K.lookup b = none ∧ ∃ vs : List Value, vs.length ≤ sizeLine ∧ (∀ u ∈ vs, OkU A u) ∧
    ((h.get? b = some { cls := .type "list", data := .seq vs.toArray } ∧ u = .frz { cls := .type "list", data := .seq vs.toArray } (.lst (vs.map toV))) ∨
     (h.get? b = some { cls := .type "tuple", data := .seq vs.toArray } ∧ u = .frz { cls := .type "tuple", data := .seq vs.toArray } (.tup (vs.map toV)))) := by
  obtain ⟨hb, hk⟩ := of_argH q
  obtain ⟨vs, h1, h2, h3⟩ := ar b hb
  refine ⟨hk, vs, h1, h2, ?_⟩
  rcases h3 with e | e
  · rw [argH_at hb hk e, hoOf_lst] at q
    exact .inl ⟨e, (Option.some.inj q).symm⟩
  · rw [argH_at hb hk e, hoOf_tup] at q
    exact .inr ⟨e, (Option.some.inj q).symm⟩
theorem argH_only (ar : ∀ a ∈ A, ArgOb h A a) : OnlyF (argH K h A) := fun b => by
  cases q : argH K h A b with
  | none => exact .inl rfl
  | some u =>
    obtain ⟨_, vs, _, _, ⟨_, e⟩ | ⟨_, e⟩⟩ := argH_is ar q
    · exact .inr ⟨_, _, by rw [e]⟩
    · exact .inr ⟨_, _, by rw [e]⟩
theorem argH_ok (ar : ∀ a ∈ A, ArgOb h A a) : HOk P w (argH K h A) h := fun b u q => by
  obtain ⟨_, vs, h1, h2, ⟨e, rfl⟩ | ⟨e, rfl⟩⟩ := argH_is ar q
  · exact ⟨e, by rw [List.length_map]; exact h1, vs, _, vals_toV h2, e⟩
  · exact ⟨e, by rw [List.length_map]; exact h1, vs, vals_toV h2, _, e, rfl, _, rfl⟩
theorem seq_inj {c c' : Value} {vs us : List Value} (e : (some { cls := c, data := .seq vs.toArray } : Option Obj) = some { cls := c', data := .seq us.toArray }) : c = c' ∧ vs = us := by
  have e1 := Option.some.inj e
  have e2 : c = c' := congrArg Obj.cls e1
  have e3 : Data.seq vs.toArray = Data.seq us.toArray := congrArg Obj.data e1
  injection e3 with e4
  refine ⟨e2, ?_⟩
  have e5 := congrArg Array.toList e4
  simpa using e5
/-- a list argument -/
theorem argL (KX : K.In h) (ar : ∀ a ∈ A, ArgOb h A a) {a : Addr} {vs : List Value} (ha : a ∈ A) (e : h.get? a = some { cls := .type "list", data := .seq vs.toArray }) : (∀ u ∈ vs, OkU A u) ∧ SqL K (argH K h A) a (vs.map toV) := by
  obtain ⟨us, h1, h2, h3⟩ := ar a ha
  have hu : us = vs := by
    rcases h3 with q | q
    · rw [e] at q
      exact (seq_inj q).2.symm
    · rw [e] at q
      exact absurd (Value.type.inj (seq_inj q).1) (by decide)
  subst hu
  refine ⟨h2, ?_⟩
  cases hk : K.lookup a with
  | none => exact .inl (.inr ⟨_, by rw [argH_at ha hk e, hoOf_lst]⟩)
  | some o =>
    have e2 := KX a o hk
    rw [e] at e2
    obtain rfl := Option.some.inj e2
    exact .inr ⟨_, us.toArray, _, hk, rfl, rfl, rfl, by rw [List.size_toArray]; exact h1, by simpa using vals_toV h2⟩
theorem argT (KX : K.In h) (ar : ∀ a ∈ A, ArgOb h A a) {a : Addr} {vs : List Value} (ha : a ∈ A) (e : h.get? a = some { cls := .type "tuple", data := .seq vs.toArray }) : (∀ u ∈ vs, OkU A u) ∧ SqT K (argH K h A) a (vs.map toV) := by
  obtain ⟨us, h1, h2, h3⟩ := ar a ha
  have hu : us = vs := by
    rcases h3 with q | q
    · rw [e] at q
      exact absurd (Value.type.inj (seq_inj q).1) (by decide)
    · rw [e] at q
      exact (seq_inj q).2.symm
  subst hu
  refine ⟨h2, ?_⟩
  cases hk : K.lookup a with
  | none => exact .inl (.inr ⟨_, by rw [argH_at ha hk e, hoOf_tup]⟩)
  | some o =>
    have e2 := KX a o hk
    rw [e] at e2
    obtain rfl := Option.some.inj e2
    exact .inr ⟨_, us.toArray, _, hk, rfl, rfl, by rw [List.size_toArray]; exact h1, by simpa using vals_toV h2⟩
mutual
theorem dw_one {Pm : Params} (KX : K.In h) (ar : ∀ a ∈ A, ArgOb h A a) : ∀ (d : WData) (v : Value), Well Pm h v d → plW d = true → OkU A v → Dw K (argH K h A) (toV v) d
  | .none, _, x, _, _ => by
    cases x
    exact .non
  | .bool b, _, x, _, _ => by
    cases x
    exact .bl b
  | .int i, _, x, _, _ => by
    cases x
    exact .int i
  | .str s, _, x, _, _ => by
    cases x
    exact .str s
  | .bytes b, _, x, _, _ => by
    cases x
    have z := Dw.byt (K := K) (H := argH K h A) b.toArray
    exact z
  | .list ds, _, x, p, hu => by
    obtain ⟨a, vs, rfl, ho, hall⟩ := well_list x
    obtain ⟨h2, hs⟩ := argL KX ar hu ho
    exact .lst hs (dw_all KX ar ds _ hall p h2)
  | .tuple ds, _, x, p, hu => by
    obtain ⟨a, vs, rfl, ho, hall⟩ := well_tuple x
    obtain ⟨h2, hs⟩ := argT KX ar hu ho
    exact .tup hs (dw_all KX ar ds _ hall p h2)
  | .float _, _, _, p, _ => Bool.noConfusion (show false = true from p)
  | .dict _, _, _, p, _ => Bool.noConfusion (show false = true from p)
  | .bytearray _, _, _, p, _ => Bool.noConfusion (show false = true from p)
  | .set _, _, _, p, _ => Bool.noConfusion (show false = true from p)
  | .frozenset _, _, _, p, _ => Bool.noConfusion (show false = true from p)
  | .obj _ _, _, _, p, _ => Bool.noConfusion (show false = true from p)
theorem dw_all {Pm : Params} (KX : K.In h) (ar : ∀ a ∈ A, ArgOb h A a) : ∀ (ds : List WData) (vs : List Value), WellAll Pm h vs ds → plWs ds = true → (∀ u ∈ vs, OkU A u) → DwAll K (argH K h A) (vs.map toV) ds
  | [], _, x, _, _ => by
    cases x
    exact .nil
  | d :: ds, _, x, p, hu => by
    obtain ⟨v, vs, rfl, x1, x2⟩ := well_cons x
    have q : plW d = true ∧ plWs ds = true := Bool.and_eq_true_iff.mp p
    exact .cons (dw_one KX ar d v x1 q.1 (hu _ (List.mem_cons_self ..))) (dw_all KX ar ds vs x2 q.2 fun u m => hu u (List.mem_cons_of_mem _ m))
end
end
/-! ### the call -/
theorem spec_call {P : Program} {w : World} {K : PySem.W.Frag} {mg mb : Str → Option Value} {CX : CXT} {k : Nat} {fa : Addr} {fd : FuncData} {ps : List Str} {sp : Sp} {s₁ : Shared} {vals : List Value} {ds : List WData} {R : PySem.W.WRecords} {cl : Str → Option Addr} {d0 : WData}
    (KX : K.In s₁.heap) (hns : s₁.heap.Ns mainGlobals mg) (hb : s₁.heap.Ns builtinsNs mb) (hbb : ∀ x : Str, x ≠ "__name__" → mb x = bootBuiltins x) (hlim : s₁.heap.NoLimit) (hg : s₁.gens = #[])
    (hwl : WellAll w.params s₁.heap vals ds) (hpl : plWs ds = true) (hwt : ∀ d ∈ ds, d.weight ≤ 1048576) (hr : Room k callerA)
    (F : ∀ base : Heap, K.In base → base.Ns mainGlobals mg → FnOk P w K mg base CX k fa fd ps sp) (hbind : ∀ (s : Shared) (us : List Value), us.length = ps.length → BindsTo s fd ⟨us, []⟩ (ps.zip us)) (hlen : ds.length = ps.length)
    (hsp : ∀ (H : Hp) (xs : List V), OnlyF H → DwAll K H xs ds → sp xs H (fun v H' => Dw K H' v d0) fun _ _ _ => False)
    (hCX : ∀ H e s', CX [] H s₁ (fun _ _ _ => False) e s' → False) :
    codeAny (model P w) callerA (.call (.ref fa) ⟨vals, []⟩) (fun r s' => ∃ u as, r = .ok (.ret u) ∧ ReadsW R cl s'.heap u d0 as ∧ OldK s₁.heap s'.heap ∧ s'.os = s₁.os ∧ AllBare s'.gens) s₁ := by
  obtain ⟨A, ho, ar⟩ := area_all ds vals hwl hpl hwt
  have hO : OnlyF (argH K s₁.heap A) := argH_only ar
  have hok : HOk P w (argH K s₁.heap A) s₁.heap := argH_ok ar
  have hS := dw_all KX ar ds vals hwl hpl ho
  have hV := vals_toV ho
  have hK : ∀ b u, argH K s₁.heap A b = some u → K.lookup b = none := fun b u q => (argH_is ar q).1
  have noA : ∀ {b : Addr} {o : Obj} {es : Array DictEntry} {ep : Nat}, s₁.heap.get? b = some o → o.data = .dict es ep → argH K s₁.heap A b = none := fun {b o es ep} e d => by
    cases q : argH K s₁.heap A b with
    | none => rfl
    | some u =>
      obtain ⟨_, vs, _, _, ⟨e2, _⟩ | ⟨e2, _⟩⟩ := argH_is ar q
      · rw [e2] at e
        cases e
        have d' : Data.seq vs.toArray _ = Data.dict es ep := d
        cases d'
      · rw [e2] at e
        cases e
        have d' : Data.seq vs.toArray _ = Data.dict es ep := d
        cases d'
  generalize argH K s₁.heap A = H at hO hok hS hK noA
  have base_of : ∀ {b : Addr} {o : Obj}, s₁.heap.get? b = some o → H b = none → (hidT s₁.heap H).get? b = some o := fun e n => hidT_get e n
  have nsK : ∀ {b : Addr} {m : Str → Option Value}, s₁.heap.Ns b m → (hidT s₁.heap H).Ns b m := fun {b m} ⟨o, es, ep, e, d, r⟩ => ⟨o, es, ep, base_of e (noA e d), d, r⟩
  have nK : ∀ b o, K.lookup b = some o → H b = none := fun b o e => by
    cases q : H b with
    | none => rfl
    | some u =>
      rw [hK b u q] at e
      cases e
  have hKb : K.In (hidT s₁.heap H) := fun b o e => base_of (KX b o e) (nK b o e)
  have hM : Mod K mg (hidT s₁.heap H) := ⟨hKb, nsK hns, ⟨mb, nsK hb, hbb⟩, let ⟨mc, h1, h2⟩ := hlim; ⟨mc, nsK h1, h2⟩⟩
  have e0 : Env0 P w K mg (hidT s₁.heap H) callerA [] s₁ H := ⟨rfl, hM, fun b o e => of_hidT e, Nat.le_of_eq (hidT_size _ _), trivial, fun b hb => absurd (show b ∈ ([] : List Addr) from hb) (by simp), hok, .of_eq hg⟩
  have hl : vals.length = ps.length := by rw [wellAll_len hwl]; exact hlen
  refine codeAny_mono ((F _ hKb (nsK hns)).run callerA [] s₁ H ⟨vals, []⟩ vals (vals.map toV) _ _ hr e0 (hbind s₁ vals hl) hV (hsp H _ hO hS)) fun r s' x => ?_
  cases r with
  | error e => exact (hCX H e s' x).elim
  | ok fl =>
    cases fl with
    | next => exact False.elim x
    | brk => exact False.elim x
    | cont => exact False.elim x
    | ret u =>
      obtain ⟨v, H', os, bare, un, hok', r', q⟩ := x
      have kept : ∀ b o, s₁.heap.get? b = some o → s'.heap.get? b = some o := fun b o e => by
        cases q2 : H b with
        | none => exact un.keep b o e q2 (by intro z; exact absurd (show b ∈ ([] : List Addr) from z) (by simp)) (by simp)
        | some u2 =>
          rcases hO b with z | ⟨ob, u3, z⟩
          · rw [q2] at z
            cases z
          · have z2 := un.frzs b ob _ z
            obtain ⟨e1, _⟩ := hok b _ z
            obtain ⟨e2, _⟩ := hok' b _ z2
            rw [e] at e1
            cases e1
            exact e2
      have KX' : K.In s'.heap := fun b o e => kept b o (KX b o e)
      obtain ⟨as, hrd⟩ := Dw.reads (R := R) (cl := cl) hok' KX' d0 v u q r'
      exact ⟨u, as, rfl, hrd, OldK.of_keep kept, os, bare⟩
/-! ### the row -/
theorem layable_weight {ds : List WData} (h : WData.layableAll ds = true) : ∀ d ∈ ds, d.weight ≤ 1048576 := fun d hd =>
  (PySem.W.layableW_iff.mp (List.all_eq_true.mp h d hd)).2.2
theorem encAll_len : ∀ (cs : List Codec) (a : Codec.denoteAll cs), (Codec.encAll cs a).length = cs.length
  | [], _ => rfl
  | c :: cs, a => by
    show (Codec.encAll cs a.2).length + 1 = cs.length + 1
    rw [encAll_len cs a.2]
/-- the goal that k_headS leaves (case hc), from the promise of the row's def: whatever the arguments that the codecs let and the row asks for, the def gives what stands for enc (f ..) -/
theorem walk_spec {r : OpenSpec} {k : Nat} {q : Program} {loose : List Str} {XP : (Str → Option Value) → Heap → Prop} {YP : World → Heap → Prop} {d : DefRec} {K : Params → PySem.W.Frag} {CX : World → CXT} {ps : List Str} {sp : World → Sp}
    (hwell : r.wellSaid = true) (hdf : d.params.defaults = []) (hlen : r.args.length = ps.length) (hr : Room k callerA)
    (hY : ∀ (w : World) (h : Heap), YP w h → (K w.params).In h)
    (F : ∀ (w : World) (mg : Str → Option Value) (fa : Addr) (h : Heap), YP w h → (K w.params).In h → h.Ns mainGlobals mg → mg d.name = some (.ref fa) →
      ∃ fd : FuncData, (∀ (s : Shared) (us : List Value), us.length = ps.length → BindsTo s fd ⟨us, []⟩ (ps.zip us)) ∧
        ∀ base : Heap, (K w.params).In base → base.Ns mainGlobals mg → FnOk r.prog w (K w.params) mg base (CX w) k fa fd ps (sp w))
    (hsp : ∀ (w : World) (H : Hp) (xs : List V) (a : Codec.denoteAll r.args), OnlyF H → Codec.withinAll r.args a = true → Codec.app r.args r.asked a = true → DwAll (K w.params) H xs (Codec.encAll r.args a) →
      sp w xs H (fun v H' => Dw (K w.params) H' v (r.ret.enc (Codec.app r.args r.f a))) fun _ _ _ => False)
    (hCX : ∀ (w : World) (H : Hp) (s : Shared) (e : Value) (s' : Shared), CX w [] H s (fun _ _ _ => False) e s' → False) :
    PySem.W.WalkOS q loose XP YP r d [] (fun f vs => PySem.call f vs) := by
  intro w s_0 s₁ mg mb G Y fa o pm cd doc dV kV ho hd hcd hD hmg hg args vals as hpre hlay hrd hwl hlo
  obtain ⟨a, e1, e2⟩ := PySem.W.os_pre_some hpre
  obtain ⟨e3, hwi⟩ := Codec.encAll_of_decAll r.args args a e1
  subst e3
  have KX := hY w _ Y
  obtain ⟨fd, hb, hF⟩ := F w mg fa _ Y KX G.T.g hmg
  refine PySem.W.enter_call (codeAny_mono (spec_call (R := []) (cl := classAt s_0.heap) (d0 := r.ret.enc (Codec.app r.args r.f a)) KX G.T.g G.T.b G.T.builtins G.T.nolimit hg hwl (pl_encAll _ _) (layable_weight hlay) hr hF hb (by rw [encAll_len]; exact hlen)
    (fun H xs hO hS => hsp w H xs a hO hwi e2 hS) fun H e s' => hCX w H s₁ e s') fun r' s' hq => ?_)
  obtain ⟨u, as', rfl, h1, h2, h3, h4⟩ := hq
  exact ⟨.inl ⟨u, _, as', rfl, fun _ => rfl, h1, (OpenSpec.post_iff hwell hwi _ _).mpr rfl, fun z => Bool.noConfusion (show false = true from z)⟩, h2, h3, h4⟩
/-- the same where the promise hangs on the written part alone -/
theorem walk_specK {r : OpenSpec} {k : Nat} {q : Program} {loose : List Str} {XP : (Str → Option Value) → Heap → Prop} {YP : World → Heap → Prop} {d : DefRec} {K : Params → PySem.W.Frag} {CX : CXT} {ps : List Str} {sp : PySem.W.Frag → Sp}
    (hwell : r.wellSaid = true) (hdf : d.params.defaults = []) (hlen : r.args.length = ps.length) (hr : Room k callerA)
    (hY : ∀ (w : World) (h : Heap), YP w h → (K w.params).In h)
    (F : ∀ (w : World) (mg : Str → Option Value) (fa : Addr) (h : Heap), YP w h → (K w.params).In h → h.Ns mainGlobals mg → mg d.name = some (.ref fa) →
      ∃ fd : FuncData, (∀ (s : Shared) (us : List Value), us.length = ps.length → BindsTo s fd ⟨us, []⟩ (ps.zip us)) ∧
        ∀ base : Heap, (K w.params).In base → base.Ns mainGlobals mg → FnOk r.prog w (K w.params) mg base CX k fa fd ps (sp (K w.params)))
    (hsp : ∀ (K : PySem.W.Frag) (H : Hp) (xs : List V) (a : Codec.denoteAll r.args), OnlyF H → Codec.withinAll r.args a = true → Codec.app r.args r.asked a = true → DwAll K H xs (Codec.encAll r.args a) →
      sp K xs H (fun v H' => Dw K H' v (r.ret.enc (Codec.app r.args r.f a))) fun _ _ _ => False)
    (hCX : ∀ (H : Hp) (s : Shared) (e : Value) (s' : Shared), CX [] H s (fun _ _ _ => False) e s' → False) :
    PySem.W.WalkOS q loose XP YP r d [] (fun f vs => PySem.call f vs) :=
  walk_spec (K := K) (CX := fun _ => CX) (sp := fun w => sp (K w.params)) hwell hdf hlen hr hY F (fun w H xs a h1 h2 h3 h4 => hsp (K w.params) H xs a h1 h2 h3 h4) fun _ H s e s' => hCX H s e s'
end L2
end

set_option linter.all false
namespace BL
open Vamati

/-! ### sums -/
theorem foldl_add (l : List Int) : ∀ a : Int, l.foldl (fun (s x : Int) => s + x) a = a + Vamati.sum l := by
  induction l with
  | nil => intro a; simp [Vamati.sum]
  | cons x l ih =>
    intro a
    have h1 := ih (a + x)
    have h2 := ih (0 + x)
    simp only [Vamati.sum, List.foldl_cons] at h1 h2 ⊢
    omega
theorem sum_nil : Vamati.sum [] = 0 := rfl
theorem sum_cons (x : Int) (l : List Int) : Vamati.sum (x :: l) = x + Vamati.sum l := by
  have := foldl_add l (0 + x)
  simp only [Vamati.sum, List.foldl_cons] at this ⊢
  omega
theorem sum_append (l k : List Int) : Vamati.sum (l ++ k) = Vamati.sum l + Vamati.sum k := by
  induction l with
  | nil => simp [sum_nil]
  | cons x l ih => rw [List.cons_append, sum_cons, sum_cons, ih]; omega
theorem sum_map_add {α : Type} (f g : α → Int) (l : List α) : Vamati.sum (l.map fun a => f a + g a) = Vamati.sum (l.map f) + Vamati.sum (l.map g) := by
  induction l with
  | nil => simp [sum_nil]
  | cons x l ih => simp only [List.map_cons, sum_cons, ih]; omega
theorem sum_map_sub {α : Type} (f g : α → Int) (l : List α) : Vamati.sum (l.map fun a => f a - g a) = Vamati.sum (l.map f) - Vamati.sum (l.map g) := by
  induction l with
  | nil => simp [sum_nil]
  | cons x l ih => simp only [List.map_cons, sum_cons, ih]; omega
theorem sum_bound {α : Type} (f : α → Int) (lo hi : Int) : ∀ (l : List α), (∀ a ∈ l, lo ≤ f a ∧ f a ≤ hi) → lo * l.length ≤ Vamati.sum (l.map f) ∧ Vamati.sum (l.map f) ≤ hi * l.length
  | [], _ => by simp [sum_nil]
  | x :: l, h => by
    have ih := sum_bound f lo hi l fun a ha => h a (List.mem_cons_of_mem _ ha)
    have hx := h x (List.mem_cons_self ..)
    simp only [List.map_cons, sum_cons, List.length_cons, Int.natCast_add, Int.mul_add]
    omega

/-! ### edges -/
def beg (r : Row) (k : Nat) : Int := Vamati.sum ((r.take k).map fun a => a.width + a.space)
def tbeg (r : Row) (k : Nat) : Int := Vamati.sum ((r.take k).map fun a => a.width + (a.space - a.shrink))
def wid (r : Row) (k : Nat) : Int := (r[k]?.map fun a => a.width).getD 0
def stp (r : Row) (k : Nat) : Int := beg r k + wid r k
def tstp (r : Row) (k : Nat) : Int := tbeg r k + wid r k

theorem slice_snoc {r : Row} {i j : Nat} (hi : i ≤ j) (hj : j < r.length) : slice r i j = (r.take j).drop i ++ [r[j]] := by
  unfold slice
  rw [List.take_succ_eq_append_getElem hj, List.drop_append_of_le_length (by rw [List.length_take]; omega)]
theorem inner_slice {r : Row} {i j : Nat} (hi : i ≤ j) (hj : j < r.length) : inner (slice r i j) = (r.take j).drop i := by
  rw [slice_snoc hi hj]; unfold inner; exact List.dropLast_concat
theorem sum_cut {r : Row} (f : Item → Int) {i j : Nat} (hi : i ≤ j) : Vamati.sum ((r.take j).map f) = Vamati.sum ((r.take i).map f) + Vamati.sum (((r.take j).drop i).map f) := by
  have e : r.take j = r.take i ++ (r.take j).drop i := by
    have h := (List.take_append_drop i (r.take j)).symm
    rw [List.take_take, Nat.min_eq_left hi] at h
    exact h
  have h2 : (r.take j).map f = (r.take i).map f ++ ((r.take j).drop i).map f := by
    rw [← List.map_append, ← e]
  rw [h2, sum_append]
theorem natural_slice {r : Row} {i j : Nat} (hi : i ≤ j) (hj : j < r.length) : naturalOf (slice r i j) = stp r j - beg r i := by
  unfold naturalOf
  rw [inner_slice hi hj, slice_snoc hi hj, List.map_append, sum_append]
  have h := sum_cut (r := r) (fun a => a.width + a.space) hi
  have h2 := sum_map_add (fun a : Item => a.width) (fun a => a.space) ((r.take j).drop i)
  have h3 : wid r j = r[j].width := by unfold wid; rw [List.getElem?_eq_getElem hj]; rfl
  simp only [List.map_cons, List.map_nil, sum_cons, sum_nil] at *
  unfold stp beg
  rw [h3]
  omega
theorem tight_slice {r : Row} {i j : Nat} (hi : i ≤ j) (hj : j < r.length) : naturalOf (slice r i j) - shrinkOf (slice r i j) = tstp r j - tbeg r i := by
  rw [natural_slice hi hj]
  unfold shrinkOf
  rw [inner_slice hi hj]
  have h := sum_cut (r := r) (fun a => a.width + a.space) hi
  have h2 := sum_cut (r := r) (fun a => a.width + (a.space - a.shrink)) hi
  have h3 := sum_map_add (fun a : Item => a.width) (fun a => a.space - a.shrink) ((r.take j).drop i)
  have h4 := sum_map_sub (fun a : Item => a.space) (fun a => a.shrink) ((r.take j).drop i)
  have h5 := sum_map_add (fun a : Item => a.width) (fun a => a.space) ((r.take j).drop i)
  unfold stp tstp beg tbeg
  omega

/-! ### a good row -/
structure Good (r : Row) : Prop where
  few : r.length ≤ 300
  it : ∀ a ∈ r, good a = true
structure GoodM (m : Measure) : Prop where
  hm : 0 ≤ m.measure ∧ m.measure ≤ 100000000
  hf : 0 ≤ m.first ∧ m.first ≤ 100000000
  hi : 0 ≤ m.indent ∧ m.indent ≤ 100000000
theorem within_iff {lo hi n : Int} : within lo hi n = true ↔ lo ≤ n ∧ n ≤ hi := by
  unfold within; rw [Bool.and_eq_true, decide_eq_true_iff, decide_eq_true_iff]
theorem good_iff {a : Item} : good a = true ↔ (0 ≤ a.width ∧ a.width ≤ 1000000) ∧ (0 ≤ a.space ∧ a.space ≤ 1000000) ∧ (0 ≤ a.stretch ∧ a.stretch ≤ 1000000) ∧ (0 ≤ a.shrink ∧ a.shrink ≤ 1000000) ∧ a.shrink ≤ a.space ∧
    (-1000000 ≤ a.height ∧ a.height ≤ 1000000) ∧ (-1000000 ≤ a.depth ∧ a.depth ≤ 1000000) ∧ (-1 ≤ a.cost ∧ a.cost ≤ 1000000) := by
  unfold good
  simp only [Bool.and_eq_true, within_iff, decide_eq_true_iff, MOST]
theorem step_beg {r : Row} {k : Nat} (hk : k < r.length) : beg r (k + 1) = beg r k + (r[k].width + r[k].space) := by
  unfold beg
  rw [List.take_succ_eq_append_getElem hk, List.map_append, sum_append]
  simp [sum_cons, sum_nil]
theorem step_tbeg {r : Row} {k : Nat} (hk : k < r.length) : tbeg r (k + 1) = tbeg r k + (r[k].width + (r[k].space - r[k].shrink)) := by
  unfold tbeg
  rw [List.take_succ_eq_append_getElem hk, List.map_append, sum_append]
  simp [sum_cons, sum_nil]
theorem wid_eq {r : Row} {k : Nat} (hk : k < r.length) : wid r k = r[k].width := by
  unfold wid; rw [List.getElem?_eq_getElem hk]; rfl
theorem Good.at_ {r : Row} (g : Good r) {k : Nat} (hk : k < r.length) : (0 ≤ r[k].width ∧ r[k].width ≤ 1000000) ∧ (0 ≤ r[k].space ∧ r[k].space ≤ 1000000) ∧ (0 ≤ r[k].stretch ∧ r[k].stretch ≤ 1000000) ∧ (0 ≤ r[k].shrink ∧ r[k].shrink ≤ 1000000) ∧ r[k].shrink ≤ r[k].space ∧
    (-1000000 ≤ r[k].height ∧ r[k].height ≤ 1000000) ∧ (-1000000 ≤ r[k].depth ∧ r[k].depth ≤ 1000000) ∧ (-1 ≤ r[k].cost ∧ r[k].cost ≤ 1000000) := good_iff.mp (g.it r[k] (List.getElem_mem hk))
theorem beg_mono {r : Row} (g : Good r) {i : Nat} : ∀ {j : Nat}, i ≤ j → j ≤ r.length → beg r i ≤ beg r j ∧ tbeg r i ≤ tbeg r j := by
  intro j
  induction j with
  | zero => intro h _; have : i = 0 := by omega
            subst this; exact ⟨Int.le_refl _, Int.le_refl _⟩
  | succ j ih =>
    intro h hj
    by_cases e : i = j + 1
    · subst e; exact ⟨Int.le_refl _, Int.le_refl _⟩
    · have := ih (by omega) (by omega)
      have q := g.at_ (k := j) (by omega)
      rw [step_beg (by omega), step_tbeg (by omega)]
      omega
/-- a later end is farther right -/
theorem stp_mono {r : Row} (g : Good r) {i j : Nat} (h : i < j) (hj : j < r.length) : stp r i ≤ stp r j ∧ tstp r i ≤ tstp r j := by
  have q := g.at_ (k := i) (by omega)
  have q2 := g.at_ (k := j) hj
  have := beg_mono g (i := i + 1) (j := j) h (by omega)
  rw [step_beg (by omega), step_tbeg (by omega)] at this
  unfold stp tstp
  rw [wid_eq (by omega), wid_eq hj]
  omega
theorem beg_bound {r : Row} (g : Good r) : ∀ {k : Nat}, k ≤ r.length → beg r k ≤ 2000000 * k := by
  intro k
  induction k with
  | zero => intro _; simp [beg, sum_nil]
  | succ k ih =>
    intro h
    have := ih (by omega)
    have q := g.at_ (k := k) (by omega)
    rw [step_beg (by omega)]
    omega
theorem natural_bound {r : Row} (g : Good r) {i j : Nat} (hi : i ≤ j) (hj : j < r.length) : 0 ≤ stp r j - beg r i ∧ stp r j - beg r i ≤ 600000000 := by
  have a := beg_mono g hi (by omega)
  have b := beg_bound g (k := j) (by omega)
  have c := beg_mono g (i := 0) (j := i) (by omega) (by omega)
  have q := g.at_ (k := j) hj
  have z : beg r 0 = 0 := by simp [beg, sum_nil]
  have f := g.few
  unfold stp
  rw [wid_eq hj]
  omega
theorem tight_bound {r : Row} (g : Good r) {i j : Nat} (hi : i ≤ j) (hj : j < r.length) : 0 ≤ tstp r j - tbeg r i ∧ tstp r j - tbeg r i ≤ stp r j - beg r i := by
  have a := beg_mono g hi (by omega)
  have q := g.at_ (k := j) hj
  have s := tight_slice hi hj
  rw [natural_slice hi hj] at s
  have sh : 0 ≤ shrinkOf (slice r i j) := by
    unfold shrinkOf
    rw [inner_slice hi hj]
    have := (sum_bound (fun a : Item => a.shrink) 0 1000000 ((r.take j).drop i) (fun a ha => by
      have := good_iff.mp (g.it a (List.mem_of_mem_take (List.mem_of_mem_drop ha)))
      omega)).1
    simpa using this
  unfold tstp at *
  rw [wid_eq hj] at *
  omega

end BL

set_option linter.all false
namespace BL
open Vamati

/-! ### the best breaking from an item on -/
def emp : Broken := { ends := [], worth := nothing }
def B (r : Row) (m : Measure) (i : Nat) : Broken := (bestFrom r m (r.length - i)).headD emp
/-- where a line from i on may end -/
def endsFrom (r : Row) (i : Nat) : List Nat := (List.range' i (r.length - i)).filter (mayEnd r)
theorem bestOf_eq (r : Row) (m : Measure) : bestOf r m = B r m 0 := rfl
theorem B_len (r : Row) (m : Measure) : B r m r.length = emp := by unfold B; rw [Nat.sub_self]; rfl
theorem bestFrom_map (r : Row) (m : Measure) : ∀ k, k ≤ r.length → bestFrom r m k = (List.range' (r.length - k) (k + 1)).map (B r m)
  | 0, _ => by
    show [emp] = _
    simp only [Nat.sub_zero, Nat.zero_add, List.range'_one, List.map_cons, List.map_nil, B_len]
  | k + 1, h => by
    have ih := bestFrom_map r m k (by omega)
    have e : r.length - (k + 1) + 1 = r.length - k := by omega
    rw [List.range'_succ, List.map_cons, e, ← ih]
    have hb : B r m (r.length - (k + 1)) = bestAt r m (r.length - (k + 1)) (bestFrom r m k) := by
      unfold B
      have e2 : r.length - (r.length - (k + 1)) = k + 1 := by omega
      rw [e2]; rfl
    rw [hb]; rfl
theorem cands (r : Row) (m : Measure) (i : Nat) (F : Nat → Broken) : ∀ len c,
    ((((List.range' (i + 1 + c) len).map F).zipIdx c).filterMap fun x => if mayEnd r (i + x.2) = true then some (withLine r m i (i + x.2) x.1) else none)
      = ((List.range' (i + c) len).filter (mayEnd r)).map fun j => withLine r m i j (F (j + 1))
  | 0, _ => by simp
  | len + 1, c => by
    have ih := cands r m i F len (c + 1)
    have e1 : i + 1 + (c + 1) = i + 1 + c + 1 := by omega
    have e2 : i + (c + 1) = i + c + 1 := by omega
    rw [e1, e2] at ih
    rw [List.range'_succ, List.range'_succ, List.map_cons, List.zipIdx_cons, List.filterMap_cons, List.filter_cons]
    by_cases h : mayEnd r (i + c) = true
    · simp only [h, if_true, List.map_cons]
      rw [ih]
      have e3 : i + 1 + c = i + c + 1 := by omega
      rw [e3]
    · simp only [h, if_false]
      rw [ih]
      simp
theorem B_step {r : Row} (m : Measure) {i : Nat} (hi : i < r.length) :
    B r m i = (firstBest ((endsFrom r i).map fun j => withLine r m i j (B r m (j + 1)))).getD emp := by
  obtain ⟨k, hk⟩ : ∃ k, r.length - i = k + 1 := ⟨r.length - i - 1, by omega⟩
  have e : r.length - (k + 1) = i := by omega
  have hb : B r m i = bestAt r m i (bestFrom r m k) := by
    unfold B
    rw [hk]
    show bestAt r m (r.length - (k + 1)) (bestFrom r m k) = _
    rw [e]
  rw [hb, bestFrom_map r m k (by omega)]
  have e3 : r.length - k = i + 1 + 0 := by omega
  have h := cands r m i (B r m) (k + 1) 0
  rw [← e3] at h
  show (firstBest _).getD emp = _
  rw [h]
  unfold endsFrom
  rw [hk]; rfl

/-! ### weights -/
def wt (w : Worth) : Int := w.over * 1000000000000000000000000 + w.cost * 1000 + w.lines
structure Fair (w : Worth) : Prop where
  o : 0 ≤ w.over ∧ w.over ≤ 1000000000 * w.lines
  c : 0 ≤ w.cost ∧ w.cost ≤ 1000000000000000000 * w.lines
  l : w.lines ≤ 300
theorem better_iff {a b : Worth} (ha : Fair a) (hb : Fair b) : betterWorth a b = decide (wt a < wt b) := by
  obtain ⟨⟨a1, a2⟩, ⟨a3, a4⟩, a5⟩ := ha
  obtain ⟨⟨b1, b2⟩, ⟨b3, b4⟩, b5⟩ := hb
  unfold betterWorth wt
  rw [Bool.eq_iff_iff]
  simp only [Bool.or_eq_true, Bool.and_eq_true, decide_eq_true_iff]
  constructor
  · rintro (h | ⟨h, h' | ⟨h', h''⟩⟩) <;> omega
  · intro h
    by_cases h1 : a.over < b.over
    · exact .inl h1
    · have h2 : a.over = b.over := by omega
      refine .inr ⟨h2, ?_⟩
      by_cases h3 : a.cost < b.cost
      · exact .inl h3
      · have h4 : a.cost = b.cost := by omega
        exact .inr ⟨h4, by omega⟩

/-- the first of the least -/
def argm (W : Nat → Int) : List Nat → Option Nat
  | [] => none
  | b :: l => match argm W l with
    | none => some b
    | some c => if W c < W b then some c else some b
theorem argm_cons (W : Nat → Int) (b : Nat) (l : List Nat) : argm W (b :: l) = match argm W l with
    | none => some b
    | some c => if W c < W b then some c else some b := rfl
theorem argm_mem {W : Nat → Int} : ∀ {l : List Nat} {c : Nat}, argm W l = some c → c ∈ l
  | b :: l, c, h => by
    rw [argm_cons] at h
    cases e : argm W l with
    | none => rw [e] at h; simp at h; subst h; exact List.mem_cons_self ..
    | some d =>
      rw [e] at h
      simp only at h
      split at h
      · cases h; exact List.mem_cons_of_mem _ (argm_mem e)
      · cases h; exact List.mem_cons_self ..
theorem argm_some {W : Nat → Int} : ∀ {l : List Nat}, l ≠ [] → ∃ c, argm W l = some c
  | b :: l, _ => by
    rw [argm_cons]
    cases argm W l with
    | none => exact ⟨_, rfl⟩
    | some c => simp only; split <;> exact ⟨_, rfl⟩
theorem firstBest_argm (G : Nat → Broken) : ∀ (l : List Nat), (∀ j ∈ l, Fair (G j).worth) → firstBest (l.map G) = (argm (fun j => wt (G j).worth) l).map G
  | [], _ => rfl
  | b :: l, h => by
    have ih := firstBest_argm G l fun j hj => h j (List.mem_cons_of_mem _ hj)
    show (match firstBest (l.map G) with
      | none => some (G b)
      | some c => if betterWorth c.worth (G b).worth = true then some c else some (G b)) = _
    rw [ih]
    rw [argm_cons]
    cases e : argm (fun j => wt (G j).worth) l with
    | none => rfl
    | some c =>
      simp only [Option.map_some]
      rw [better_iff (h c (List.mem_cons_of_mem _ (argm_mem e))) (h b (List.mem_cons_self ..))]
      by_cases q : wt (G c).worth < wt (G b).worth
      · simp [q]
      · simp [q]
theorem argm_last {W : Nat → Int} {z : Nat} : ∀ {l : List Nat}, (∀ x ∈ l, W z < W x) → argm W (l ++ [z]) = some z
  | [], _ => rfl
  | b :: l, h => by
    have ih := argm_last (z := z) (l := l) fun x hx => h x (List.mem_cons_of_mem _ hx)
    rw [List.cons_append]
    rw [argm_cons]
    rw [ih]
    simp only
    rw [if_pos (h b (List.mem_cons_self ..))]

/-! ### a scan from the left -/
def scanL (W : Nat → Int) : List Nat → Int → Nat → Int × Nat
  | [], least, be => (least, be)
  | e :: es, least, be => if W e < least then scanL W es (W e) e else scanL W es least be
theorem scanL_argm (W : Nat → Int) : ∀ (l : List Nat) (least : Int) (be : Nat),
    scanL W l least be = match argm W l with | none => (least, be) | some c => if W c < least then (W c, c) else (least, be)
  | [], _, _ => rfl
  | e :: es, least, be => by
    unfold scanL
    by_cases h : W e < least
    · rw [if_pos h, scanL_argm W es (W e) e]
      rw [argm_cons]
      cases q : argm W es with
      | none => simp [h]
      | some c =>
        simp only
        by_cases h2 : W c < W e
        · have h3 : W c < least := by omega
          simp [h2, h3]
        · simp [h2, h]
    · rw [if_neg h, scanL_argm W es least be]
      rw [argm_cons]
      cases q : argm W es with
      | none => simp [h]
      | some c =>
        simp only
        by_cases h2 : W c < W e
        · simp [h2]
        · have h3 : ¬ W c < least := by omega
          simp [h2, h, h3]
/-- .. that stops where all behind is heavier -/
def scanB (neg : Nat → Bool) (V W : Nat → Int) : List Nat → Int → Nat → Int × Nat
  | [], least, be => (least, be)
  | e :: es, least, be => if neg e = true ∧ V e > least then (least, be) else if W e < least then scanB neg V W es (W e) e else scanB neg V W es least be
theorem scanL_heavy (W : Nat → Int) : ∀ (l : List Nat) (least : Int) (be : Nat), (∀ e ∈ l, least ≤ W e) → scanL W l least be = (least, be)
  | [], _, _, _ => rfl
  | e :: es, least, be, h => by
    unfold scanL
    have := h e (List.mem_cons_self ..)
    rw [if_neg (by omega)]
    exact scanL_heavy W es least be fun x hx => h x (List.mem_cons_of_mem _ hx)
theorem scanB_scanL (neg : Nat → Bool) (V W : Nat → Int) : ∀ (l : List Nat) (least : Int) (be : Nat), (∀ e ∈ l, V e ≤ W e) → l.Pairwise (fun a b => neg a = true → V a ≤ V b) →
    scanB neg V W l least be = scanL W l least be
  | [], _, _, _, _ => rfl
  | e :: es, least, be, h, p => by
    have ih := fun ls b => scanB_scanL neg V W es ls b (fun x hx => h x (List.mem_cons_of_mem _ hx)) (List.pairwise_cons.mp p).2
    unfold scanB
    by_cases q : neg e = true ∧ V e > least
    · rw [if_pos q]
      refine (scanL_heavy W (e :: es) least be fun x hx => ?_).symm
      rcases List.mem_cons.mp hx with rfl | hx
      · have := h x (List.mem_cons_self ..); omega
      · have h1 := (List.pairwise_cons.mp p).1 x hx q.1
        have h2 := h x (List.mem_cons_of_mem _ hx)
        omega
    · rw [if_neg q]
      unfold scanL
      rw [ih, ih]

/-! ### the lines' worths are fair -/
theorem mem_endsFrom {r : Row} {i j : Nat} : j ∈ endsFrom r i ↔ i ≤ j ∧ j < r.length ∧ mayEnd r j = true := by
  unfold endsFrom
  rw [List.mem_filter, List.mem_range'_1]
  constructor
  · rintro ⟨h, h'⟩; exact ⟨h.1, by omega, h'⟩
  · rintro ⟨h, h', h''⟩; exact ⟨⟨h, by omega⟩, h''⟩
theorem mayEnd_last {r : Row} {j : Nat} (h : j + 1 = r.length) : mayEnd r j = true := by
  unfold mayEnd; simp [h]
theorem mayEnd_iff {r : Row} (g : Good r) {j : Nat} (hj : j < r.length) : mayEnd r j = true ↔ j + 1 = r.length ∨ r[j].cost ≠ -1 := by
  have := g.at_ hj
  unfold mayEnd
  rw [List.getElem?_eq_getElem hj]
  simp only [Bool.or_eq_true, decide_eq_true_iff, Option.map_some, Option.getD_some]
  omega
theorem room_bound {m : Measure} (g : GoodM m) (i : Nat) : -100000000 ≤ roomOf m i ∧ roomOf m i ≤ 100000000 := by
  obtain ⟨a, b, c⟩ := g
  unfold roomOf
  split <;> omega
/-- the slack of a line from i to j; what's over; what its slack weighs -/
def slk (r : Row) (m : Measure) (i j : Nat) : Int := beg r i + roomOf m i - stp r j
def exc (r : Row) (m : Measure) (i j : Nat) : Int := tstp r j - (tbeg r i + roomOf m i)
theorem slack_eq {r : Row} {m : Measure} {i j : Nat} (hi : i ≤ j) (hj : j < r.length) : slackOf (roomOf m i) (slice r i j) = slk r m i j := by
  unfold slackOf slk; rw [natural_slice hi hj]; omega
theorem over_eq {r : Row} {m : Measure} {i j : Nat} (hi : i ≤ j) (hj : j < r.length) : overOf (roomOf m i) (slice r i j) = atLeast0 (exc r m i j) := by
  unfold overOf
  have h := tight_slice hi hj
  have h2 := natural_slice hi hj
  rw [slack_eq hi hj]
  unfold slk exc
  congr 1
  omega
theorem sq_bound {s : Int} (h : -700000000 ≤ s ∧ s ≤ 700000000) : 0 ≤ s * s ∧ s * s ≤ 490000000000000000 := by
  by_cases q : 0 ≤ s
  · have h1 := Int.mul_nonneg q q
    have h2 : s * s ≤ 700000000 * 700000000 := Int.mul_le_mul h.2 h.2 q (by omega)
    omega
  · have q' : 0 ≤ -s := by omega
    have e : s * s = -s * -s := by rw [Int.neg_mul_neg]
    have h1 := Int.mul_nonneg q' q'
    have h2 : -s * -s ≤ 700000000 * 700000000 := Int.mul_le_mul (by omega) (by omega) q' (by omega)
    rw [e]
    omega
theorem slk_bound {r : Row} (g : Good r) {m : Measure} (gm : GoodM m) {i j : Nat} (hi : i ≤ j) (hj : j < r.length) : -700000000 ≤ slk r m i j ∧ slk r m i j ≤ 700000000 := by
  have a := natural_bound g hi hj
  have b := room_bound gm i
  unfold slk
  omega
theorem last_cost {r : Row} {i j : Nat} (hi : i ≤ j) (hj : j < r.length) : ((slice r i j).getLast?.map fun a => a.cost).getD 0 = r[j].cost := by
  rw [slice_snoc hi hj, List.getLast?_concat]; rfl
theorem cost_eq {r : Row} {m : Measure} {i j : Nat} (hi : i ≤ j) (hj : j < r.length) : costOf (roomOf m i) (decide (j + 1 = r.length)) (slice r i j) =
    if j + 1 = r.length then (if slk r m i j < 0 then slk r m i j * slk r m i j else 0) else slk r m i j * slk r m i j + r[j].cost := by
  unfold costOf
  simp only
  rw [slack_eq hi hj, last_cost hi hj]
  simp only [decide_eq_true_iff]
theorem fair_line {r : Row} (g : Good r) {m : Measure} (gm : GoodM m) {i j : Nat} (hi : i ≤ j) (hj : j < r.length) (he : mayEnd r j = true) {rest : Broken} (hr : Fair rest.worth) (hl : rest.worth.lines + (j + 1) ≤ r.length) :
    Fair (withLine r m i j rest).worth ∧ (withLine r m i j rest).worth.lines + i ≤ r.length := by
  have a := slk_bound g gm hi hj
  have b := sq_bound a
  have c := tight_bound g hi hj
  have d := natural_bound g hi hj
  have e := room_bound gm i
  have f := g.few
  have q := g.at_ hj
  have z := mayEnd_iff g hj
  have ho : 0 ≤ overOf (roomOf m i) (slice r i j) ∧ overOf (roomOf m i) (slice r i j) ≤ 1000000000 := by
    rw [over_eq hi hj]
    unfold atLeast0 exc
    split <;> omega
  have hc : 0 ≤ costOf (roomOf m i) (decide (j + 1 = r.length)) (slice r i j) ∧ costOf (roomOf m i) (decide (j + 1 = r.length)) (slice r i j) ≤ 1000000000000000000 := by
    rw [cost_eq hi hj]
    by_cases h : j + 1 = r.length
    · rw [if_pos h]; split <;> omega
    · rw [if_neg h]
      have := z.mp he
      omega
  obtain ⟨⟨o1, o2⟩, ⟨c1, c2⟩, l1⟩ := hr
  unfold withLine Worth.behind
  refine ⟨⟨?_, ?_, ?_⟩, ?_⟩
  · simp only; omega
  · simp only; omega
  · simp only; omega
  · simp only; omega
theorem endsFrom_ne {r : Row} {i : Nat} (hi : i < r.length) : endsFrom r i ≠ [] := by
  intro h
  have : r.length - 1 ∈ endsFrom r i := mem_endsFrom.mpr ⟨by omega, by omega, mayEnd_last (by omega)⟩
  rw [h] at this
  cases this
/-- the weight of the best breaking with a first line i .. j -/
def cw (r : Row) (m : Measure) (i j : Nat) : Int := wt (withLine r m i j (B r m (j + 1))).worth
theorem B_fair {r : Row} (g : Good r) {m : Measure} (gm : GoodM m) : ∀ k i, i + k = r.length → Fair (B r m i).worth ∧ (B r m i).worth.lines + i ≤ r.length ∧
    (i < r.length → ∃ j, j ∈ endsFrom r i ∧ argm (cw r m i) (endsFrom r i) = some j ∧ B r m i = withLine r m i j (B r m (j + 1)))
  | k, i, hk => by
    by_cases hi : i < r.length
    · have hF : ∀ j ∈ endsFrom r i, Fair (withLine r m i j (B r m (j + 1))).worth ∧ (withLine r m i j (B r m (j + 1))).worth.lines + i ≤ r.length := fun j hj => by
        have h1 := mem_endsFrom.mp hj
        have ih := B_fair g gm (r.length - (j + 1)) (j + 1) (by omega)
        exact fair_line g gm h1.1 h1.2.1 h1.2.2 ih.1 ih.2.1
      have hs := B_step m hi
      rw [firstBest_argm (fun j => withLine r m i j (B r m (j + 1))) _ (fun j hj => (hF j hj).1)] at hs
      obtain ⟨c, hc⟩ := argm_some (W := cw r m i) (endsFrom_ne hi)
      have hc' : argm (fun j => wt (withLine r m i j (B r m (j + 1))).worth) (endsFrom r i) = some c := hc
      rw [hc'] at hs
      have hs' : B r m i = withLine r m i c (B r m (c + 1)) := hs
      have hm := argm_mem hc
      rw [hs']
      exact ⟨(hF c hm).1, (hF c hm).2, fun _ => ⟨c, hm, hc, rfl⟩⟩
    · have e : i = r.length := by omega
      subst e
      rw [B_len]
      exact ⟨⟨⟨by decide, by decide⟩, ⟨by decide, by decide⟩, by decide⟩, by simp [emp, nothing], fun h => absurd h (Nat.lt_irrefl _)⟩
termination_by k => k
decreasing_by
  have h1 := mem_endsFrom.mp hj
  omega
end BL

set_option linter.all false
namespace BL
open Vamati
/-- the last item of the best breaking's first line from i on -/
def nxt (r : Row) (m : Measure) (i : Nat) : Nat := (B r m i).ends.headD 0
theorem B_first {r : Row} (g : Good r) {m : Measure} (gm : GoodM m) {i : Nat} (hi : i < r.length) :
    i ≤ nxt r m i ∧ nxt r m i < r.length ∧ mayEnd r (nxt r m i) = true ∧ B r m i = withLine r m i (nxt r m i) (B r m (nxt r m i + 1)) ∧ argm (cw r m i) (endsFrom r i) = some (nxt r m i) := by
  obtain ⟨j, hj, ha, e⟩ := (B_fair g gm (r.length - i) i (by omega)).2.2 hi
  have h := mem_endsFrom.mp hj
  have e2 : nxt r m i = j := by unfold nxt; rw [e]; rfl
  rw [e2]
  exact ⟨h.1, h.2.1, h.2.2, e, ha⟩
theorem B_ends {r : Row} (g : Good r) {m : Measure} (gm : GoodM m) {i : Nat} (hi : i < r.length) : (B r m i).ends = nxt r m i :: (B r m (nxt r m i + 1)).ends := by
  have := (B_first g gm hi).2.2.2.1
  rw [this]
  show nxt r m i :: _ = _
  rfl
theorem B_lines_pos {r : Row} (g : Good r) {m : Measure} (gm : GoodM m) {i : Nat} (hi : i < r.length) : 1 ≤ (B r m i).worth.lines := by
  have := (B_first g gm hi).2.2.2.1
  rw [this]
  show 1 ≤ _ + 1
  omega
def rst (r : Row) (m : Measure) (j : Nat) : Int := if j + 1 = r.length then 1 else 1 + (r[j]?.map fun a => a.cost).getD 0 * 1000 + wt (B r m (j + 1)).worth
def vw (r : Row) (m : Measure) (i j : Nat) : Int := slk r m i j * slk r m i j * 1000 + (if slk r m i j < 0 then (if 0 < exc r m i j then exc r m i j * 1000000000000000000000000 else 0) else 0)
theorem wt_nonneg {w : Worth} (h : Fair w) : 0 ≤ wt w := by
  obtain ⟨a, b, c⟩ := h
  unfold wt; omega
theorem exc_le {r : Row} (g : Good r) {m : Measure} {i j : Nat} (hi : i ≤ j) (hj : j < r.length) : exc r m i j ≤ -(slk r m i j) := by
  have := tight_bound g hi hj
  unfold exc slk; omega
theorem cw_eq {r : Row} (g : Good r) {m : Measure} (gm : GoodM m) {i j : Nat} (h : j ∈ endsFrom r i) (hs : slk r m i (r.length - 1) < 0) : cw r m i j = vw r m i j + rst r m j := by
  obtain ⟨hi, hj, he⟩ := mem_endsFrom.mp h
  have x := exc_le g (m := m) hi hj
  have ho : overOf (roomOf m i) (slice r i j) = if slk r m i j < 0 then (if 0 < exc r m i j then exc r m i j else 0) else 0 := by
    rw [over_eq hi hj]; unfold atLeast0
    split <;> split <;> try split
    all_goals omega
  have hc := cost_eq (m := m) hi hj
  unfold cw withLine Worth.behind wt
  simp only
  rw [ho, hc]
  unfold vw rst
  by_cases e : j + 1 = r.length
  · have e2 : r.length - 1 = j := by omega
    rw [e2] at hs
    rw [if_pos e, if_pos e, e, B_len]
    simp only [emp, nothing, if_pos hs]
    split <;> omega
  · rw [if_neg e, if_neg e, List.getElem?_eq_getElem hj]
    unfold wt
    simp only [Option.map_some, Option.getD_some]
    split
    · split <;> omega
    · omega
theorem short_line {r : Row} (g : Good r) {m : Measure} (gm : GoodM m) {i : Nat} (hi : i < r.length) (hs : 0 ≤ slk r m i (r.length - 1)) :
    (B r m i).worth = { over := 0, cost := 0, lines := 1 } ∧ nxt r m i = r.length - 1 := by
  have hl : r.length - 1 < r.length := by omega
  have hil : i ≤ r.length - 1 := by omega
  have elast : r.length - 1 + 1 = r.length := by omega
  have x := exc_le g (m := m) hil hl
  have hw : (withLine r m i (r.length - 1) (B r m (r.length - 1 + 1))).worth = { over := 0, cost := 0, lines := 1 } := by
    unfold withLine Worth.behind
    simp only
    rw [over_eq hil hl, cost_eq hil hl, elast, B_len, if_pos rfl, if_neg (by omega)]
    unfold atLeast0 emp nothing
    simp only
    congr 1
    split <;> omega
  have hf := B_first g gm hi
  have hsplit : ∃ l, endsFrom r i = l ++ [r.length - 1] ∧ ∀ x ∈ l, x ∈ endsFrom r i ∧ x < r.length - 1 := by
    refine ⟨(List.range' i (r.length - 1 - i)).filter (mayEnd r), ?_, fun x hx => ?_⟩
    · unfold endsFrom
      have e : r.length - i = (r.length - 1 - i) + 1 := by omega
      rw [e, List.range'_concat, List.filter_append]
      have e2 : i + 1 * (r.length - 1 - i) = r.length - 1 := by omega
      rw [e2]
      congr 1
      simp only [List.filter_cons, mayEnd_last elast, if_true, List.filter_nil]
    · rw [List.mem_filter, List.mem_range'_1] at hx
      exact ⟨mem_endsFrom.mpr ⟨hx.1.1, by omega, hx.2⟩, by omega⟩
  obtain ⟨l, el, hlt⟩ := hsplit
  have ha : argm (cw r m i) (endsFrom r i) = some (r.length - 1) := by
    rw [el]
    refine argm_last fun x hx => ?_
    obtain ⟨hx1, hx2⟩ := hlt x hx
    obtain ⟨h1, h2, h3⟩ := mem_endsFrom.mp hx1
    have fb := B_fair g gm (r.length - (x + 1)) (x + 1) (by omega)
    have ff := (fair_line g gm h1 h2 h3 fb.1 fb.2.1).1
    have hp := B_lines_pos g gm (i := x + 1) (m := m) (by omega)
    have e1 : cw r m i (r.length - 1) = 1 := by unfold cw; rw [hw]; rfl
    rw [e1]
    obtain ⟨f1, f2, f3⟩ := ff
    have hl2 : (withLine r m i x (B r m (x + 1))).worth.lines = (B r m (x + 1)).worth.lines + 1 := rfl
    unfold cw wt
    omega
  rw [hf.2.2.2.2] at ha
  have e := Option.some.inj ha
  refine ⟨?_, e⟩
  rw [hf.2.2.2.1, e]
  exact hw
theorem scan_line {r : Row} (g : Good r) {m : Measure} (gm : GoodM m) {i : Nat} (hi : i < r.length) (hs : slk r m i (r.length - 1) < 0) (b0 : Nat) :
    scanB (fun j => decide (slk r m i j < 0)) (vw r m i) (fun j => vw r m i j + rst r m j) (endsFrom r i) 1000000000000000000000000000000000000000000 b0 = (wt (B r m i).worth, nxt r m i) := by
  have hpw : (endsFrom r i).Pairwise (fun a b => a < b) := (List.Pairwise.filter _ (List.pairwise_lt_range' (s := i) (n := r.length - i)))
  rw [scanB_scanL]
  · have hcong : ∀ (l : List Nat) (least : Int) (be : Nat), (∀ x ∈ l, x ∈ endsFrom r i) → scanL (fun j => vw r m i j + rst r m j) l least be = scanL (cw r m i) l least be := by
      intro l
      induction l with
      | nil => intros; rfl
      | cons x l ih =>
        intro least be h
        have e := cw_eq g gm (h x (List.mem_cons_self ..)) hs
        have ih' := fun a b => ih a b fun y hy => h y (List.mem_cons_of_mem _ hy)
        unfold scanL
        simp only [← e, ih']
    rw [hcong _ _ _ fun x h => h, scanL_argm]
    have hf := B_first g gm hi
    rw [hf.2.2.2.2]
    simp only
    have ew : cw r m i (nxt r m i) = wt (B r m i).worth := by unfold cw; rw [← hf.2.2.2.1]
    rw [ew]
    have hb := (B_fair g gm (r.length - i) i (by omega)).1
    rw [if_pos]
    obtain ⟨f1, f2, f3⟩ := hb
    unfold wt; omega
  · intro j hj
    obtain ⟨h1, h2, h3⟩ := mem_endsFrom.mp hj
    have fb := wt_nonneg (B_fair g gm (r.length - (j + 1)) (j + 1) (by omega)).1
    have q := g.at_ h2
    have me := (mayEnd_iff g h2).mp h3
    have : 0 ≤ rst r m j := by
      unfold rst
      split
      · omega
      · rw [List.getElem?_eq_getElem h2]; simp only [Option.map_some, Option.getD_some]; omega
    omega
  · refine List.Pairwise.imp_of_mem (fun {a b} ha hb hab hn => ?_) hpw
    obtain ⟨a1, a2, a3⟩ := mem_endsFrom.mp ha
    obtain ⟨b1, b2, b3⟩ := mem_endsFrom.mp hb
    have mn := stp_mono g hab b2
    have hn' : slk r m i a < 0 := of_decide_eq_true hn
    have h1 : slk r m i b ≤ slk r m i a := by unfold slk; omega
    have h2 : exc r m i a ≤ exc r m i b := by unfold exc; omega
    have sq : slk r m i a * slk r m i a ≤ slk r m i b * slk r m i b := by
      have e1 : slk r m i a * slk r m i a = -(slk r m i a) * -(slk r m i a) := by rw [Int.neg_mul_neg]
      have e2 : slk r m i b * slk r m i b = -(slk r m i b) * -(slk r m i b) := by rw [Int.neg_mul_neg]
      rw [e1, e2]
      exact Int.mul_le_mul (by omega) (by omega) (by omega) (by omega)
    unfold vw
    rw [if_pos hn', if_pos (show slk r m i b < 0 by omega)]
    split <;> split <;> omega
end BL

set_option linter.all false
namespace BL
open Vamati
/-! ### numbers as items -/
theorem itemsOf_flat : ∀ (r : Row) (n : Nat), r.length ≤ n → itemsOf n (r.flatMap numbersOf) = some r
  | [], 0, _ => rfl
  | [], n + 1, _ => rfl
  | a :: r, 0, h => by simp at h
  | a :: r, n + 1, h => by
    have ih := itemsOf_flat r n (by simp at h; omega)
    show itemsOf (n + 1) (numbersOf a ++ r.flatMap numbersOf) = _
    unfold numbersOf
    show (itemsOf n (r.flatMap numbersOf)).map _ = _
    rw [ih]
    rfl
theorem flat_len (r : Row) : (r.flatMap numbersOf).length = 7 * r.length := by
  induction r with
  | nil => rfl
  | cons a r ih => rw [List.flatMap_cons, List.length_append, ih]; simp [numbersOf]; omega
theorem itemsOf_none : ∀ (n : Nat) (l : List Int), l.length % 7 ≠ 0 → itemsOf n l = none
  | 0, [], h => by simp at h
  | 0, _ :: _, _ => rfl
  | n + 1, [], h => by simp at h
  | n + 1, [_], _ => rfl
  | n + 1, [_, _], _ => rfl
  | n + 1, [_, _, _], _ => rfl
  | n + 1, [_, _, _, _], _ => rfl
  | n + 1, [_, _, _, _, _], _ => rfl
  | n + 1, [_, _, _, _, _, _], _ => rfl
  | n + 1, w :: h :: d :: s :: t :: u :: c :: r, e => by
    have ih := itemsOf_none n r (by simp at e; omega)
    show (itemsOf n r).map _ = _
    rw [ih]; rfl
theorem as_items : ∀ (k : Nat) (l : List Int), l.length = 7 * k → ∃ r : Row, r.length = k ∧ l = r.flatMap numbersOf
  | 0, l, h => ⟨[], rfl, List.eq_nil_of_length_eq_zero h⟩
  | k + 1, l, h => by
    have no : ∀ {n : Nat}, n < 7 → n = 7 * (k + 1) → False := fun h1 h2 => by omega
    cases l with
    | nil => exact (no (show 0 < 7 by decide) h).elim
    | cons w l =>
    cases l with
    | nil => exact (no (show 1 < 7 by decide) h).elim
    | cons y l =>
    cases l with
    | nil => exact (no (show 2 < 7 by decide) h).elim
    | cons d l =>
    cases l with
    | nil => exact (no (show 3 < 7 by decide) h).elim
    | cons s l =>
    cases l with
    | nil => exact (no (show 4 < 7 by decide) h).elim
    | cons t l =>
    cases l with
    | nil => exact (no (show 5 < 7 by decide) h).elim
    | cons u l =>
    cases l with
    | nil => exact (no (show 6 < 7 by decide) h).elim
    | cons c q =>
      obtain ⟨r, hr, e⟩ := as_items k q (by simp only [List.length_cons] at h; omega)
      exact ⟨⟨w, y, d, s, t, u, c⟩ :: r, by rw [List.length_cons, hr], by rw [e]; rfl⟩
theorem as_row (l : List Int) (h : l.length % 7 = 0) : ∃ r : Row, l = r.flatMap numbersOf := by
  obtain ⟨r, _, e⟩ := as_items (l.length / 7) l (by omega)
  exact ⟨r, e⟩
theorem readItems_flat (r : Row) : readItems (r.flatMap numbersOf) = if r.all good = true then .ok r else .error (-2) := by
  unfold readItems
  rw [itemsOf_flat r _ (by rw [flat_len]; omega)]
theorem readItems_bad {l : List Int} (h : l.length % 7 ≠ 0) : readItems l = .error (-1) := by
  unfold readItems
  rw [itemsOf_none _ _ h]
/-- the i-th seven numbers -/
theorem flat_cut (r : Row) {i : Nat} {a : Item} (h : r[i]? = some a) : ((r.flatMap numbersOf).drop (7 * i)).take 7 = numbersOf a := by
  induction r generalizing i with
  | nil => simp at h
  | cons b r ih =>
    cases i with
    | zero =>
      have e : b = a := by simpa using h
      subst e
      rfl
    | succ i =>
      have ih' := ih (i := i) (by simpa using h)
      rw [List.flatMap_cons, List.drop_append]
      have e1 : (numbersOf b).length = 7 := rfl
      rw [List.drop_eq_nil_of_le (by rw [e1]; omega), List.nil_append, e1]
      have e2 : 7 * (i + 1) - 7 = 7 * i := by omega
      rw [e2, ih']
/-- what readItem says of seven numbers -/
theorem readItem_seven (a : Item) : readItem (numbersOf a) = if good a = true then .ok a else .error (-2) := by
  unfold readItem
  rw [if_neg (by simp [numbersOf])]
  have e : numbersOf a = [a].flatMap numbersOf := by simp
  rw [e, readItems_flat]
  simp only [List.all_cons, List.all_nil, Bool.and_true]
  by_cases h : good a = true
  · simp [h]
  · simp [h]
theorem seven (l : List Int) (h : l.length = 7) : ∃ a : Item, l = numbersOf a := by
  obtain ⟨r, hr, e⟩ := as_items 1 l h
  cases r with
  | nil => cases hr
  | cons a q =>
    have hq : q = [] := List.eq_nil_of_length_eq_zero (by rw [List.length_cons] at hr; omega)
    subst hq
    exact ⟨a, by rw [e, List.flatMap_cons, List.flatMap_nil, List.append_nil]⟩
end BL

set_option linter.all false
namespace BL
open Vamati
/-- a call by its place, its whole numbers and its list (empty where it has none) -/
inductive CallIs : Int → List Int → List Int → Call → Prop
  | add (l : List Int) : CallIs 0 [] l (.add l)
  | put (i : Int) (l : List Int) : CallIs 1 [i] l (.put i l)
  | change (i : Int) (l : List Int) : CallIs 2 [i] l (.change i l)
  | take (i : Int) : CallIs 3 [i] [] (.take i)
  | row : CallIs 4 [] [] .row
  | best (a b c : Int) : CallIs 5 [a, b, c] [] (.best a b c)
  | worth (a b c : Int) : CallIs 6 [a, b, c] [] (.worth a b c)
  | judge (a b c : Int) (l : List Int) : CallIs 7 [a, b, c] l (.judge a b c l)
  | greedy (a b c : Int) : CallIs 8 [a, b, c] [] (.greedy a b c)
  | lines (a b c : Int) : CallIs 9 [a, b, c] [] (.lines a b c)
  | places (a b c e d g : Int) : CallIs 10 [a, b, c, e, d, g] [] (.places a b c e d g)
  | box (a b c d g : Int) : CallIs 11 [a, b, c, d, g] [] (.box a b c d g)
  | natural : CallIs 12 [] [] .natural
  | narrowest : CallIs 13 [] [] .narrowest
def counts : List Int := [0, 1, 1, 1, 0, 3, 3, 3, 3, 3, 6, 5, 0, 0]
def lists : List Bool := [true, true, true, false, false, false, false, true, false, false, false, false, false, false]
/-- a call read: its place j, how many whole numbers, whether a list -/
structure Step (p : Int) (rest t : List Int) (cl : Call) (j n : Nat) (b : Bool) (ws nums : List Int) : Prop where
  pj : p = j
  cj : counts[j]? = some (n : Int)
  lj : lists[j]? = some b
  few : n ≤ rest.length
  ws_ : ws = rest.take n
  lst : (b = false ∧ nums = [] ∧ t = rest.drop n) ∨ (b = true ∧ ∃ (k : Nat) (r : List Int), rest.drop n = (k : Int) :: r ∧ k ≤ r.length ∧ nums = r.take k ∧ t = r.drop k)
  is_ : CallIs p ws nums cl
theorem rows0 {r : List Int} {x : List (List Int) × List Int} (h : PyFlat.rows 0 r = some x) : x = ([], r) := (Option.some.inj h).symm
theorem rows1 {r : List Int} {x : List (List Int) × List Int} (h : PyFlat.rows 1 r = some x) : ∃ (k : Nat) (q : List Int), r = (k : Int) :: q ∧ k ≤ q.length ∧ x = ([q.take k], q.drop k) := by
  cases r with
  | nil => cases h
  | cons n q =>
    unfold PyFlat.rows PyFlat.row at h
    simp only at h
    by_cases hn : 0 ≤ n ∧ n.toNat ≤ q.length
    · rw [if_pos hn] at h
      simp only [PyFlat.rows] at h
      obtain ⟨k, rfl⟩ : ∃ k : Nat, n = k := ⟨n.toNat, by omega⟩
      exact ⟨k, q, rfl, by simpa using hn.2, by simpa using (Option.some.inj h).symm⟩
    · rw [if_neg hn] at h
      cases h
theorem call_shape {p : Int} {rest t : List Int} {c : List (List Int)} {n k : Nat} (hs : PyVamati.shape p = some (n, k)) (h : PyFlat.call PyVamati.shape (p :: rest) = some (c, t)) :
    n ≤ rest.length ∧ ∃ xs, PyFlat.rows k (rest.drop n) = some (xs, t) ∧ c = (p :: rest.take n) :: xs := by
  simp only [PyFlat.call, hs] at h
  by_cases hl : rest.length < n
  · rw [if_pos hl] at h; cases h
  · rw [if_neg hl] at h
    cases e : PyFlat.rows k (rest.drop n) with
    | none => rw [e] at h; cases h
    | some x =>
      obtain ⟨xs, u⟩ := x
      rw [e] at h
      have h' := Option.some.inj h
      exact ⟨by omega, xs, by rw [(Prod.mk.inj h').2], (Prod.mk.inj h').1.symm⟩
theorem len1 {n : Nat} {l : List Int} (h : n ≤ l.length) : (l.take n).length = n := by rw [List.length_take]; omega
theorem list1 : ∀ {l : List Int}, l.length = 1 → ∃ a, l = [a]
  | [a], _ => ⟨a, rfl⟩
theorem list3 : ∀ {l : List Int}, l.length = 3 → ∃ a b c, l = [a, b, c]
  | [a, b, c], _ => ⟨a, b, c, rfl⟩
theorem list5 : ∀ {l : List Int}, l.length = 5 → ∃ a b c d e, l = [a, b, c, d, e]
  | [a, b, c, d, e], _ => ⟨a, b, c, d, e, rfl⟩
theorem list6 : ∀ {l : List Int}, l.length = 6 → ∃ a b c d e f, l = [a, b, c, d, e, f]
  | [a, b, c, d, e, f], _ => ⟨a, b, c, d, e, f, rfl⟩
theorem shape_cases {p : Int} {x : Nat × Nat} (h : PyVamati.shape p = some x) : (p = 0 ∧ x = (0, 1)) ∨ (p = 1 ∧ x = (1, 1)) ∨ (p = 2 ∧ x = (1, 1)) ∨ (p = 3 ∧ x = (1, 0)) ∨ (p = 4 ∧ x = (0, 0)) ∨ (p = 5 ∧ x = (3, 0)) ∨ (p = 6 ∧ x = (3, 0)) ∨ (p = 7 ∧ x = (3, 1)) ∨ (p = 8 ∧ x = (3, 0)) ∨ (p = 9 ∧ x = (3, 0)) ∨ (p = 10 ∧ x = (6, 0)) ∨ (p = 11 ∧ x = (5, 0)) ∨ (p = 12 ∧ x = (0, 0)) ∨ (p = 13 ∧ x = (0, 0)) := by
  unfold PyVamati.shape at h
  by_cases hp : p = 0
  · rw [if_pos hp] at h; exact .inl ⟨hp, (Option.some.inj h).symm⟩
  rw [if_neg hp] at h; clear hp
  by_cases hp : p = 1
  · rw [if_pos hp] at h; exact .inr (.inl ⟨hp, (Option.some.inj h).symm⟩)
  rw [if_neg hp] at h; clear hp
  by_cases hp : p = 2
  · rw [if_pos hp] at h; exact .inr (.inr (.inl ⟨hp, (Option.some.inj h).symm⟩))
  rw [if_neg hp] at h; clear hp
  by_cases hp : p = 3
  · rw [if_pos hp] at h; exact .inr (.inr (.inr (.inl ⟨hp, (Option.some.inj h).symm⟩)))
  rw [if_neg hp] at h; clear hp
  by_cases hp : p = 4
  · rw [if_pos hp] at h; exact .inr (.inr (.inr (.inr (.inl ⟨hp, (Option.some.inj h).symm⟩))))
  rw [if_neg hp] at h; clear hp
  by_cases hp : p = 5
  · rw [if_pos hp] at h; exact .inr (.inr (.inr (.inr (.inr (.inl ⟨hp, (Option.some.inj h).symm⟩)))))
  rw [if_neg hp] at h; clear hp
  by_cases hp : p = 6
  · rw [if_pos hp] at h; exact .inr (.inr (.inr (.inr (.inr (.inr (.inl ⟨hp, (Option.some.inj h).symm⟩))))))
  rw [if_neg hp] at h; clear hp
  by_cases hp : p = 7
  · rw [if_pos hp] at h; exact .inr (.inr (.inr (.inr (.inr (.inr (.inr (.inl ⟨hp, (Option.some.inj h).symm⟩)))))))
  rw [if_neg hp] at h; clear hp
  by_cases hp : p = 8
  · rw [if_pos hp] at h; exact .inr (.inr (.inr (.inr (.inr (.inr (.inr (.inr (.inl ⟨hp, (Option.some.inj h).symm⟩))))))))
  rw [if_neg hp] at h; clear hp
  by_cases hp : p = 9
  · rw [if_pos hp] at h; exact .inr (.inr (.inr (.inr (.inr (.inr (.inr (.inr (.inr (.inl ⟨hp, (Option.some.inj h).symm⟩)))))))))
  rw [if_neg hp] at h; clear hp
  by_cases hp : p = 10
  · rw [if_pos hp] at h; exact .inr (.inr (.inr (.inr (.inr (.inr (.inr (.inr (.inr (.inr (.inl ⟨hp, (Option.some.inj h).symm⟩))))))))))
  rw [if_neg hp] at h; clear hp
  by_cases hp : p = 11
  · rw [if_pos hp] at h; exact .inr (.inr (.inr (.inr (.inr (.inr (.inr (.inr (.inr (.inr (.inr (.inl ⟨hp, (Option.some.inj h).symm⟩)))))))))))
  rw [if_neg hp] at h; clear hp
  by_cases hp : p = 12
  · rw [if_pos hp] at h; exact .inr (.inr (.inr (.inr (.inr (.inr (.inr (.inr (.inr (.inr (.inr (.inr (.inl ⟨hp, (Option.some.inj h).symm⟩))))))))))))
  rw [if_neg hp] at h; clear hp
  by_cases hp : p = 13
  · rw [if_pos hp] at h; exact .inr (.inr (.inr (.inr (.inr (.inr (.inr (.inr (.inr (.inr (.inr (.inr (.inr (⟨hp, (Option.some.inj h).symm⟩)))))))))))))
  rw [if_neg hp] at h; clear hp
  cases h
theorem parse_step {p : Int} {rest t : List Int} {c : List (List Int)} {cl : Call} (h : PyFlat.call PyVamati.shape (p :: rest) = some (c, t)) (hc : VamatiNeutral.callOf (PyVamati.whole c) = some cl) :
    ∃ j n b ws nums, Step p rest t cl j n b ws nums := by
  cases hs : PyVamati.shape p with
  | none =>
    simp only [PyFlat.call, hs] at h
    cases h
  | some x =>
    obtain ⟨n, k⟩ := x
    obtain ⟨hn, xs, hx, rfl⟩ := call_shape hs h
    have hl := len1 hn
    rcases shape_cases hs with ⟨rfl, e⟩ | ⟨rfl, e⟩ | ⟨rfl, e⟩ | ⟨rfl, e⟩ | ⟨rfl, e⟩ | ⟨rfl, e⟩ | ⟨rfl, e⟩ | ⟨rfl, e⟩ | ⟨rfl, e⟩ | ⟨rfl, e⟩ | ⟨rfl, e⟩ | ⟨rfl, e⟩ | ⟨rfl, e⟩ | ⟨rfl, e⟩
    all_goals obtain ⟨rfl, rfl⟩ := Prod.mk.inj e
    · obtain ⟨k, q, e1, e2, e3⟩ := rows1 hx
      obtain ⟨rfl, rfl⟩ := Prod.mk.inj e3
      cases hc
      exact ⟨0, 0, true, [], _, rfl, rfl, rfl, hn, rfl, .inr ⟨rfl, k, q, e1, e2, rfl, rfl⟩, .add _⟩
    · obtain ⟨k, q, e1, e2, e3⟩ := rows1 hx
      obtain ⟨rfl, rfl⟩ := Prod.mk.inj e3
      obtain ⟨a, ea⟩ := list1 hl
      rw [ea] at hc
      cases hc
      exact ⟨1, 1, true, _, _, rfl, rfl, rfl, hn, ea.symm, .inr ⟨rfl, k, q, e1, e2, rfl, rfl⟩, .put _ _⟩
    · obtain ⟨k, q, e1, e2, e3⟩ := rows1 hx
      obtain ⟨rfl, rfl⟩ := Prod.mk.inj e3
      obtain ⟨a, ea⟩ := list1 hl
      rw [ea] at hc
      cases hc
      exact ⟨2, 1, true, _, _, rfl, rfl, rfl, hn, ea.symm, .inr ⟨rfl, k, q, e1, e2, rfl, rfl⟩, .change _ _⟩
    · obtain ⟨rfl, rfl⟩ := Prod.mk.inj (rows0 hx)
      obtain ⟨a, ea⟩ := list1 hl
      rw [ea] at hc
      cases hc
      exact ⟨3, 1, false, _, _, rfl, rfl, rfl, hn, ea.symm, .inl ⟨rfl, rfl, rfl⟩, .take _⟩
    · obtain ⟨rfl, rfl⟩ := Prod.mk.inj (rows0 hx)
      cases hc
      exact ⟨4, 0, false, _, _, rfl, rfl, rfl, hn, rfl, .inl ⟨rfl, rfl, rfl⟩, .row⟩
    · obtain ⟨rfl, rfl⟩ := Prod.mk.inj (rows0 hx)
      obtain ⟨a, b, d, ea⟩ := list3 hl
      rw [ea] at hc
      cases hc
      exact ⟨5, 3, false, _, _, rfl, rfl, rfl, hn, ea.symm, .inl ⟨rfl, rfl, rfl⟩, .best _ _ _⟩
    · obtain ⟨rfl, rfl⟩ := Prod.mk.inj (rows0 hx)
      obtain ⟨a, b, d, ea⟩ := list3 hl
      rw [ea] at hc
      cases hc
      exact ⟨6, 3, false, _, _, rfl, rfl, rfl, hn, ea.symm, .inl ⟨rfl, rfl, rfl⟩, .worth _ _ _⟩
    · obtain ⟨k, q, e1, e2, e3⟩ := rows1 hx
      obtain ⟨rfl, rfl⟩ := Prod.mk.inj e3
      obtain ⟨a, b, d, ea⟩ := list3 hl
      rw [ea] at hc
      cases hc
      exact ⟨7, 3, true, _, _, rfl, rfl, rfl, hn, ea.symm, .inr ⟨rfl, k, q, e1, e2, rfl, rfl⟩, .judge _ _ _ _⟩
    · obtain ⟨rfl, rfl⟩ := Prod.mk.inj (rows0 hx)
      obtain ⟨a, b, d, ea⟩ := list3 hl
      rw [ea] at hc
      cases hc
      exact ⟨8, 3, false, _, _, rfl, rfl, rfl, hn, ea.symm, .inl ⟨rfl, rfl, rfl⟩, .greedy _ _ _⟩
    · obtain ⟨rfl, rfl⟩ := Prod.mk.inj (rows0 hx)
      obtain ⟨a, b, d, ea⟩ := list3 hl
      rw [ea] at hc
      cases hc
      exact ⟨9, 3, false, _, _, rfl, rfl, rfl, hn, ea.symm, .inl ⟨rfl, rfl, rfl⟩, .lines _ _ _⟩
    · obtain ⟨rfl, rfl⟩ := Prod.mk.inj (rows0 hx)
      obtain ⟨a, b, d, e, f, g, ea⟩ := list6 hl
      rw [ea] at hc
      cases hc
      exact ⟨10, 6, false, _, _, rfl, rfl, rfl, hn, ea.symm, .inl ⟨rfl, rfl, rfl⟩, .places _ _ _ _ _ _⟩
    · obtain ⟨rfl, rfl⟩ := Prod.mk.inj (rows0 hx)
      obtain ⟨a, b, d, e, f, ea⟩ := list5 hl
      rw [ea] at hc
      cases hc
      exact ⟨11, 5, false, _, _, rfl, rfl, rfl, hn, ea.symm, .inl ⟨rfl, rfl, rfl⟩, .box _ _ _ _ _⟩
    · obtain ⟨rfl, rfl⟩ := Prod.mk.inj (rows0 hx)
      cases hc
      exact ⟨12, 0, false, _, _, rfl, rfl, rfl, hn, rfl, .inl ⟨rfl, rfl, rfl⟩, .natural⟩
    · obtain ⟨rfl, rfl⟩ := Prod.mk.inj (rows0 hx)
      cases hc
      exact ⟨13, 0, false, _, _, rfl, rfl, rfl, hn, rfl, .inl ⟨rfl, rfl, rfl⟩, .narrowest⟩
end BL

set_option linter.all false
namespace BL
open Vamati
theorem good_of_all {r : Row} (h : r.all good = true) : ∀ a ∈ r, good a = true := List.all_eq_true.mp h
theorem readItems_ok {l : List Int} {r : Row} (h : readItems l = .ok r) : r.all good = true := by
  unfold readItems at h
  split at h
  · cases h
  · split at h
    · cases h; assumption
    · cases h
theorem readItem_ok {l : List Int} {a : Item} (h : readItem l = .ok a) : good a = true := by
  unfold readItem at h
  split at h
  · cases h
  · split at h
    · cases h
    · rename_i e
      cases h
      have := readItems_ok e
      simpa using this
    · cases h
theorem step_good {r : Row} (g : Good r) (cl : Call) : Good (Vamati.step ⟨r⟩ cl).1.row := by
  cases cl with
  | add l =>
    show Good (doAdd ⟨r⟩ l).1.row
    unfold doAdd
    split
    · exact g
    · rename_i q e
      split
      · exact g
      · rename_i hm
        refine ⟨?_, fun a ha => ?_⟩
        · have : ¬ 300 < r.length + q.length := hm
          show (r ++ q).length ≤ 300
          rw [List.length_append]; omega
        · rcases List.mem_append.mp ha with h | h
          · exact g.it a h
          · exact good_of_all (readItems_ok e) a h
  | put i l =>
    show Good (doPut ⟨r⟩ i l).1.row
    unfold doPut atPlace
    split
    · exact g
    · split
      · exact g
      · rename_i a e
        split
        · exact g
        · rename_i hm
          have hm' : ¬ 300 ≤ r.length := hm
          refine ⟨?_, fun b hb => ?_⟩
          · rw [List.length_append, List.length_cons, List.length_take, List.length_drop]; show min _ r.length + (r.length - _ + 1) ≤ 300; omega
          · rcases List.mem_append.mp hb with h | h
            · exact g.it b (List.mem_of_mem_take h)
            · rcases List.mem_cons.mp h with h | h
              · rw [h]; exact readItem_ok e
              · exact g.it b (List.mem_of_mem_drop h)
  | change i l =>
    show Good (atPlace ⟨r⟩ r.length i l _).1.row
    unfold atPlace
    split
    · exact g
    · split
      · exact g
      · rename_i a e
        refine ⟨?_, fun b hb => ?_⟩
        · show (r.set _ a).length ≤ 300
          rw [List.length_set]; exact g.few
        · rcases List.mem_or_eq_of_mem_set hb with h | h
          · exact g.it b h
          · rw [h]; exact readItem_ok e
  | take i =>
    show Good (if isPlace r.length i = false then ((⟨r⟩ : State), [-5]) else (⟨r.eraseIdx i.toNat⟩, [0])).1.row
    split
    · exact g
    · refine ⟨?_, fun b hb => g.it b (List.mem_of_mem_eraseIdx hb)⟩
      have := List.length_eraseIdx_le r i.toNat
      have := g.few
      show (r.eraseIdx i.toNat).length ≤ 300
      omega
  | _ => exact g
theorem withM {a b c : Int} {os : List Int} {f : Measure → Answer} : withMeasure a b c os f = [-4] ∨ (GoodM ⟨a, b, c⟩ ∧ os.all (within 0 MOST) = true ∧ withMeasure a b c os f = f ⟨a, b, c⟩) := by
  unfold withMeasure
  split
  · rename_i h
    rw [Bool.and_eq_true] at h
    have h1 := h.1
    simp only [List.all_cons, List.all_nil, Bool.and_true, Bool.and_eq_true, within_iff, FARMOST] at h1
    exact .inr ⟨⟨h1.1, h1.2.1, h1.2.2⟩, h.2, rfl⟩
  · exact .inl rfl
theorem ends_len {r : Row} (g : Good r) {m : Measure} (gm : GoodM m) : ∀ k i, i + k = r.length → (B r m i).ends.length ≤ k
  | k, i, h => by
    by_cases hi : i < r.length
    · have q := B_first g gm (m := m) hi
      rw [B_ends g gm hi, List.length_cons]
      have := ends_len g gm (m := m) (r.length - (nxt r m i + 1)) (nxt r m i + 1) (by omega)
      omega
    · have e : i = r.length := by omega
      subst e
      rw [B_len]
      exact Nat.zero_le _
termination_by k => k
theorem linesOf_len : ∀ (i : Nat) (l : List Nat), (linesOf i l).length = l.length
  | _, [] => rfl
  | i, j :: l => by show (linesOf (j + 1) l).length + 1 = l.length + 1; rw [linesOf_len]
/-- how many items the lines have in all -/
def tot (r : Row) (ls : List (Nat × Nat)) : Nat := (ls.map fun p => (slice r p.1 p.2).length).sum
theorem slice_len {r : Row} {i j : Nat} (hi : i ≤ j) (hj : j < r.length) : (slice r i j).length = j + 1 - i := by
  unfold slice; rw [List.length_drop, List.length_take]; omega
theorem tot_best {r : Row} (g : Good r) {m : Measure} (gm : GoodM m) : ∀ k i, i + k = r.length → tot r (linesOf i (B r m i).ends) = k
  | k, i, h => by
    by_cases hi : i < r.length
    · have q := B_first g gm (m := m) hi
      rw [B_ends g gm hi]
      have := tot_best g gm (m := m) (r.length - (nxt r m i + 1)) (nxt r m i + 1) (by omega)
      show (slice r i (nxt r m i)).length + tot r (linesOf (nxt r m i + 1) (B r m (nxt r m i + 1)).ends) = k
      rw [this, slice_len q.1 q.2.1]
      omega
    · have e : i = r.length := by omega
      subst e
      rw [B_len]
      show 0 = k
      omega
termination_by k => k
theorem places_len_le (r : Row) (F : ((Nat × Nat) × Row) × Int → List (Int × Int)) (hF : ∀ x, (F x).length = x.1.2.length) : ∀ (ls : List (Nat × Nat)) (ys : List Int), (((ls.zip (rowsOf r ls)).zip ys).flatMap F).length ≤ tot r ls
  | [], ys => by simp [rowsOf]
  | p :: ls, [] => by simp [rowsOf]
  | p :: ls, y :: ys => by
    have ih := places_len_le r F hF ls ys
    show ((F ((p, slice r p.1 p.2), y)) ++ ((ls.zip (rowsOf r ls)).zip ys).flatMap F).length ≤ (slice r p.1 p.2).length + tot r ls
    rw [List.length_append, hF]
    show (slice r p.1 p.2).length + _ ≤ _
    omega
theorem places_len {r : Row} (g : Good r) {m : Measure} (gm : GoodM m) (even : Bool) (lead gap : Int) : (placesOf r m even lead gap).length ≤ r.length := by
  unfold placesOf
  have h := places_len_le r (fun x => (xsOf m even (decide (x.1.1.2 + 1 = r.length)) x.1.1.1 x.1.2).map fun p => (p, x.2)) (fun x => by rw [List.length_map]; unfold xsOf; rw [List.length_map, List.length_range])
    (linesOf 0 (bestOf r m).ends) (baselines lead gap none (rowsOf r (linesOf 0 (bestOf r m).ends)))
  have t := tot_best g gm (m := m) r.length 0 (by omega)
  rw [bestOf_eq] at h ⊢
  rw [t] at h
  exact h
theorem greedy_len (r : Row) (m : Measure) : ∀ n i, (greedyFrom r m n i).length ≤ n
  | 0, _ => Nat.le_refl _
  | n + 1, i => by
    unfold greedyFrom
    split
    · exact Nat.zero_le _
    · show (greedyFrom r m n _).length + 1 ≤ n + 1
      have := greedy_len r m n (greedyEnd r m i + 1)
      omega
theorem flat_const {α : Type} {f : α → List Int} {k : Nat} (h : ∀ a, (f a).length = k) : ∀ l : List α, (l.flatMap f).length = k * l.length
  | [] => by simp
  | a :: l => by rw [List.flatMap_cons, List.length_append, h, flat_const h l, List.length_cons, Nat.mul_add]; omega
theorem one_ans {a : Answer} (h : a.length = 1) : a.length ≤ 2101 := by omega
theorem ans_len {r : Row} (g : Good r) (cl : Call) : (Vamati.step ⟨r⟩ cl).2.length ≤ 2101 := by
  have few := g.few
  cases cl with
  | add l =>
    show (doAdd ⟨r⟩ l).2.length ≤ 2101
    unfold doAdd
    split
    · exact one_ans rfl
    · split <;> exact one_ans rfl
  | put i l =>
    show (doPut ⟨r⟩ i l).2.length ≤ 2101
    unfold doPut atPlace
    split
    · exact one_ans rfl
    · split
      · exact one_ans rfl
      · split <;> exact one_ans rfl
  | change i l =>
    show (atPlace ⟨r⟩ r.length i l _).2.length ≤ 2101
    unfold atPlace
    split
    · exact one_ans rfl
    · split <;> exact one_ans rfl
  | take i =>
    show (if isPlace r.length i = false then ((⟨r⟩ : State), [-5]) else (⟨r.eraseIdx i.toNat⟩, [0])).2.length ≤ 2101
    split <;> exact one_ans rfl
  | row =>
    show (r.flatMap numbersOf).length + 1 ≤ 2101
    rw [flat_len]; omega
  | best a b c =>
    have e0 : (Vamati.step ⟨r⟩ (.best a b c)).2 = withMeasure a b c [] (fun m => 0 :: nats (bestOf r m).ends) := rfl
    rw [e0]
    rcases withM (a := a) (b := b) (c := c) (os := []) (f := fun m => 0 :: nats (bestOf r m).ends) with h | ⟨gm, _, h⟩
    · rw [h]; exact one_ans rfl
    · rw [h]
      have := ends_len g gm r.length 0 (by omega)
      show (nats (bestOf r _).ends).length + 1 ≤ 2101
      unfold nats
      rw [List.length_map, bestOf_eq]
      omega
  | worth a b c =>
    have e0 : (Vamati.step ⟨r⟩ (.worth a b c)).2 = withMeasure a b c [] (fun m => worthAnswer (bestOf r m).worth) := rfl
    rw [e0]
    rcases withM (a := a) (b := b) (c := c) (os := []) (f := fun m => worthAnswer (bestOf r m).worth) with h | ⟨gm, _, h⟩
    · rw [h]; exact one_ans rfl
    · rw [h]; show 4 ≤ 2101; omega
  | judge a b c l =>
    have e0 : (Vamati.step ⟨r⟩ (.judge a b c l)).2 = withMeasure a b c [] (fun m => judgeAnswer r m l) := rfl
    rw [e0]
    rcases withM (a := a) (b := b) (c := c) (os := []) (f := fun m => judgeAnswer r m l) with h | ⟨gm, _, h⟩
    · rw [h]; exact one_ans rfl
    · rw [h]
      unfold judgeAnswer
      split
      · exact one_ans rfl
      · show 4 ≤ 2101; omega
  | greedy a b c =>
    have e0 : (Vamati.step ⟨r⟩ (.greedy a b c)).2 = withMeasure a b c [] (fun m => 0 :: nats (greedyFrom r m r.length 0)) := rfl
    rw [e0]
    rcases withM (a := a) (b := b) (c := c) (os := []) (f := fun m => 0 :: nats (greedyFrom r m r.length 0)) with h | ⟨gm, _, h⟩
    · rw [h]; exact one_ans rfl
    · rw [h]
      have := greedy_len r ⟨a, b, c⟩ r.length 0
      show (nats _).length + 1 ≤ 2101
      unfold nats
      rw [List.length_map]
      omega
  | lines a b c =>
    have e0 : (Vamati.step ⟨r⟩ (.lines a b c)).2 = withMeasure a b c [] (linesAnswer r) := rfl
    rw [e0]
    rcases withM (a := a) (b := b) (c := c) (os := []) (f := linesAnswer r) with h | ⟨gm, _, h⟩
    · rw [h]; exact one_ans rfl
    · rw [h]
      have := ends_len g gm r.length 0 (by omega)
      unfold linesAnswer
      rw [List.length_cons, flat_const (k := 6) (fun _ => rfl), linesOf_len, bestOf_eq]
      omega
  | places a b c e d q =>
    have e0 : (Vamati.step ⟨r⟩ (.places a b c e d q)).2 = withMeasure a b c [d, q] (fun m => if within 0 1 e = true then 0 :: (placesOf r m (decide (e = 1)) d q).flatMap (fun p => [p.1, p.2]) else [-4]) := rfl
    rw [e0]
    rcases withM (a := a) (b := b) (c := c) (os := [d, q]) (f := fun m => if within 0 1 e = true then 0 :: (placesOf r m (decide (e = 1)) d q).flatMap (fun p => [p.1, p.2]) else [-4]) with h | ⟨gm, _, h⟩
    · rw [h]; exact one_ans rfl
    · rw [h]
      split
      · have := places_len g gm (decide (e = 1)) d q
        rw [List.length_cons, flat_const (k := 2) (fun _ => rfl)]
        omega
      · exact one_ans rfl
  | box a b c d q =>
    have e0 : (Vamati.step ⟨r⟩ (.box a b c d q)).2 = withMeasure a b c [d, q] (fun m => boxAnswer r m d q) := rfl
    rw [e0]
    rcases withM (a := a) (b := b) (c := c) (os := [d, q]) (f := fun m => boxAnswer r m d q) with h | ⟨gm, _, h⟩
    · rw [h]; exact one_ans rfl
    · rw [h]; show 4 ≤ 2101; omega
  | natural => show 2 ≤ 2101; omega
  | narrowest => show 2 ≤ 2101; omega
end BL

set_option linter.all false
namespace BL
open Vamati
/-! ### what is a breaking, told by whole numbers -/
def brkI (r : Row) : Nat → List Int → Bool
  | i, [] => decide (i = r.length)
  | i, e :: l => decide ((i : Int) ≤ e) && (decide (e < (r.length : Int)) && (mayEnd r e.toNat && brkI r (e.toNat + 1) l))
theorem brkI_eq (r : Row) : ∀ (l : List Int) (i : Nat), brkI r i l = (!(l.any fun j => decide (j < 0)) && isBreaking r i (l.map Int.toNat))
  | [], i => by simp [brkI, isBreaking]
  | e :: l, i => by
    have ih := brkI_eq r l (e.toNat + 1)
    unfold brkI
    rw [List.map_cons, List.any_cons]
    show _ = (!(decide (e < 0) || l.any fun j => decide (j < 0)) && (decide (i ≤ e.toNat) && (decide (e.toNat < r.length) && (mayEnd r e.toNat && isBreaking r (e.toNat + 1) (l.map Int.toNat)))))
    rw [ih]
    by_cases h : e < 0
    · have h1 : ¬ ((i : Int) ≤ e) := by omega
      simp [h, h1]
    · have h1 : ((i : Int) ≤ e) ↔ i ≤ e.toNat := by omega
      have h2 : (e < (r.length : Int)) ↔ e.toNat < r.length := by omega
      simp only [h, h1, h2, decide_false, Bool.false_or]
      cases (l.any fun j => decide (j < 0)) <;> simp
theorem judge_yes {r : Row} {m : Measure} {l : List Int} (h : brkI r 0 l = true) : judgeAnswer r m l = worthAnswer (worthOf r m 0 (l.map Int.toNat)) ∧ isBreaking r 0 (l.map Int.toNat) = true ∧ ∀ e ∈ l, 0 ≤ e := by
  rw [brkI_eq, Bool.and_eq_true, Bool.not_eq_true'] at h
  obtain ⟨h1, h2⟩ := h
  refine ⟨?_, h2, fun e he => ?_⟩
  · unfold judgeAnswer
    rw [if_neg]
    rintro (h | h)
    · rw [h1] at h; cases h
    · rw [h2] at h; cases h
  · rw [List.any_eq_false] at h1
    have := h1 e he
    simp at this
    exact this
theorem judge_no {r : Row} {m : Measure} {l : List Int} (h : brkI r 0 l = false) : judgeAnswer r m l = [-6] := by
  rw [brkI_eq, Bool.and_eq_false_iff] at h
  unfold judgeAnswer
  rw [if_pos]
  rcases h with h | h
  · exact .inl (by simpa using h)
  · exact .inr h
/-! ### greedy -/
theorem last_max {l : List Nat} {c : Nat} (hp : l.Pairwise (· < ·)) (hc : c ∈ l) (hm : ∀ e ∈ l, e ≤ c) : l.getLast? = some c := by
  cases e : l.getLast? with
  | none => rw [List.getLast?_eq_none_iff] at e; subst e; cases hc
  | some x =>
    obtain ⟨q, rfl⟩ := List.getLast?_eq_some_iff.mp e
    have hx := hm x (by simp)
    rcases List.mem_append.mp hc with h | h
    · have := (List.pairwise_append.mp hp).2.2 c h x (by simp)
      omega
    · have : c = x := by simpa using h
      rw [this]
theorem head_min {l : List Nat} {c d : Nat} (hp : l.Pairwise (· < ·)) (hc : c ∈ l) (hm : ∀ e ∈ l, c ≤ e) : l.headD d = c := by
  cases l with
  | nil => cases hc
  | cons x t =>
    show x = c
    rcases List.mem_cons.mp hc with h | h
    · exact h.symm
    · have := (List.pairwise_cons.mp hp).1 c h
      have := hm x (List.mem_cons_self ..)
      omega
theorem greedy_is {r : Row} {m : Measure} {i c : Nat} (hc : i ≤ c) (hl : c < r.length) (he : mayEnd r c = true) (later : ∀ e, c < e → e < r.length → mayEnd r e = true → overOf (roomOf m i) (slice r i e) ≠ 0)
    (ok : overOf (roomOf m i) (slice r i c) = 0 ∨ ∀ e, i ≤ e → e < c → mayEnd r e = false) : greedyEnd r m i = c := by
  unfold greedyEnd
  have hp : ((List.range r.length).filter fun j => decide (i ≤ j) && mayEnd r j).Pairwise (· < ·) := List.Pairwise.filter _ List.pairwise_lt_range
  have mem : ∀ j, j ∈ ((List.range r.length).filter fun j => decide (i ≤ j) && mayEnd r j) ↔ j < r.length ∧ i ≤ j ∧ mayEnd r j = true := fun j => by
    rw [List.mem_filter, List.mem_range, Bool.and_eq_true, decide_eq_true_iff]
  simp only
  generalize ((List.range r.length).filter fun j => decide (i ≤ j) && mayEnd r j) = es at hp mem
  by_cases h0 : overOf (roomOf m i) (slice r i c) = 0
  · rw [last_max (c := c) (List.Pairwise.filter _ hp)]
    · rfl
    · rw [List.mem_filter, decide_eq_true_iff]; exact ⟨(mem c).mpr ⟨hl, hc, he⟩, h0⟩
    · intro e hm
      rw [List.mem_filter, decide_eq_true_iff] at hm
      obtain ⟨a, b⟩ := hm
      have q := (mem e).mp a
      rcases Nat.lt_or_ge c e with z | z
      · exact absurd b (later e z q.1 q.2.2)
      · exact z
  · have first := ok.resolve_left h0
    have ge : ∀ e ∈ es, c ≤ e := fun e hm => by
      have q := (mem e).mp hm
      rcases Nat.lt_or_ge e c with z | z
      · have := first e q.2.1 z
        rw [q.2.2] at this; cases this
      · exact z
    have emp : (es.filter fun j => decide (overOf (roomOf m i) (slice r i j) = 0)) = [] := by
      rw [List.filter_eq_nil_iff]
      intro e hm
      have q := (mem e).mp hm
      rw [decide_eq_true_iff]
      rcases Nat.lt_or_ge c e with z | z
      · exact later e z q.1 q.2.2
      · have : e = c := by have := ge e hm; omega
        rw [this]; exact h0
    rw [emp]
    show es.headD i = c
    exact head_min hp ((mem c).mpr ⟨hl, hc, he⟩) ge
theorem greedy_in {r : Row} (m : Measure) {i : Nat} (hi : i < r.length) : i ≤ greedyEnd r m i ∧ greedyEnd r m i < r.length := by
  unfold greedyEnd
  have mem : ∀ j, j ∈ ((List.range r.length).filter fun j => decide (i ≤ j) && mayEnd r j) ↔ j < r.length ∧ i ≤ j ∧ mayEnd r j = true := fun j => by
    rw [List.mem_filter, List.mem_range, Bool.and_eq_true, decide_eq_true_iff]
  simp only
  generalize ((List.range r.length).filter fun j => decide (i ≤ j) && mayEnd r j) = es at mem
  have hlast := (mem (r.length - 1)).mpr ⟨by omega, by omega, mayEnd_last (by omega)⟩
  cases h : (es.filter fun j => decide (overOf (roomOf m i) (slice r i j) = 0)).getLast? with
  | some e =>
    have h1 := List.mem_of_getLast? h
    rw [List.mem_filter] at h1
    have := (mem e).mp h1.1
    exact ⟨this.2.1, this.1⟩
  | none =>
    cases es with
    | nil => cases hlast
    | cons x t =>
      have := (mem x).mp (List.mem_cons_self ..)
      exact ⟨this.2.1, this.1⟩
theorem over_iff {r : Row} {m : Measure} {i j : Nat} (hi : i ≤ j) (hj : j < r.length) : overOf (roomOf m i) (slice r i j) = 0 ↔ tstp r j ≤ tbeg r i + roomOf m i := by
  rw [over_eq hi hj]
  unfold atLeast0 exc
  split <;> omega
theorem over_later {r : Row} (g : Good r) {m : Measure} {i j k : Nat} (hi : i ≤ j) (hk : k < r.length) (hjk : j ≤ k) (h : tbeg r i + roomOf m i < tstp r j) : overOf (roomOf m i) (slice r i k) ≠ 0 := by
  rw [Ne, over_iff (by omega) hk]
  rcases Nat.eq_or_lt_of_le hjk with e | e
  · subst e; omega
  · have := (stp_mono g e hk).2; omega
/-! ### natural, narrowest -/
theorem slice_all {r : Row} (h : 0 < r.length) : slice r 0 (r.length - 1) = r := by
  unfold slice
  rw [show r.length - 1 + 1 = r.length by omega, List.take_length]; rfl
theorem beg_zero (r : Row) : beg r 0 = 0 := by simp [beg, sum_nil]
theorem natural_row {r : Row} (h : 0 < r.length) : naturalOf r = stp r (r.length - 1) := by
  have := natural_slice (r := r) (i := 0) (j := r.length - 1) (by omega) (by omega)
  rw [slice_all h, beg_zero] at this
  omega
theorem endsFrom_step {r : Row} {k : Nat} (hk : k < r.length) : endsFrom r k = if mayEnd r k = true then k :: endsFrom r (k + 1) else endsFrom r (k + 1) := by
  unfold endsFrom
  rw [show r.length - k = (r.length - (k + 1)) + 1 by omega, List.range'_succ, List.filter_cons]
theorem endsFrom_end (r : Row) : endsFrom r r.length = [] := by unfold endsFrom; simp
def tightOf (r : Row) (p : Nat × Nat) : Int := naturalOf (slice r p.1 p.2) - shrinkOf (slice r p.1 p.2)
theorem narrow_eq (r : Row) : greatest (0 :: (shortest r).map fun l => naturalOf l - shrinkOf l) = ((linesOf 0 (endsFrom r 0)).map (tightOf r)).foldl (fun (m : Int) x => max m x) 0 := by
  unfold shortest rowsOf
  rw [List.map_map]
  have e : (List.range r.length).filter (mayEnd r) = endsFrom r 0 := by unfold endsFrom; rw [List.range_eq_range']; rfl
  rw [e]; rfl
/-! ### worth by lines -/
theorem worth_lines (r : Row) (m : Measure) : ∀ (es : List Nat) (i : Nat), (worthOf r m i es).over = Vamati.sum ((linesOf i es).map fun p => overOf (roomOf m p.1) (slice r p.1 p.2)) ∧
    (worthOf r m i es).cost = Vamati.sum ((linesOf i es).map fun p => costOf (roomOf m p.1) (decide (p.2 + 1 = r.length)) (slice r p.1 p.2)) ∧ (worthOf r m i es).lines = (linesOf i es).length
  | [], _ => ⟨rfl, rfl, rfl⟩
  | j :: l, i => by
    obtain ⟨a, b, c⟩ := worth_lines r m l (j + 1)
    refine ⟨?_, ?_, ?_⟩
    · show _ + (worthOf r m (j + 1) l).over = Vamati.sum (_ :: (linesOf (j + 1) l).map _)
      rw [sum_cons, a]
    · show _ + (worthOf r m (j + 1) l).cost = Vamati.sum (_ :: (linesOf (j + 1) l).map _)
      rw [sum_cons, b]
    · show (worthOf r m (j + 1) l).lines + 1 = (linesOf (j + 1) l).length + 1
      rw [c]
theorem B_breaks {r : Row} (g : Good r) {m : Measure} (gm : GoodM m) : ∀ k i, i + k = r.length → (B r m i).worth = worthOf r m i (B r m i).ends ∧ isBreaking r i (B r m i).ends = true
  | k, i, h => by
    by_cases hi : i < r.length
    · have q := B_first g gm (m := m) hi
      have ih := B_breaks g gm (m := m) (r.length - (nxt r m i + 1)) (nxt r m i + 1) (by omega)
      rw [B_ends g gm hi]
      refine ⟨?_, ?_⟩
      · rw [q.2.2.2.1]
        show (B r m (nxt r m i + 1)).worth.behind _ _ = (worthOf r m (nxt r m i + 1) (B r m (nxt r m i + 1)).ends).behind _ _
        rw [← ih.1]
      · show (decide (i ≤ nxt r m i) && (decide (nxt r m i < r.length) && (mayEnd r (nxt r m i) && isBreaking r (nxt r m i + 1) (B r m (nxt r m i + 1)).ends))) = true
        rw [ih.2, q.2.2.1, decide_eq_true q.1, decide_eq_true q.2.1]; rfl
    · have e : i = r.length := by omega
      subst e
      rw [B_len]
      refine ⟨rfl, ?_⟩
      show decide (r.length = r.length) = true
      simp
termination_by k => k
theorem isB_cons {r : Row} {i j : Nat} {l : List Nat} (h : isBreaking r i (j :: l) = true) : i ≤ j ∧ j < r.length ∧ mayEnd r j = true ∧ isBreaking r (j + 1) l = true := by
  have h' : (decide (i ≤ j) && (decide (j < r.length) && (mayEnd r j && isBreaking r (j + 1) l))) = true := h
  simp only [Bool.and_eq_true, decide_eq_true_iff] at h'
  exact h'
theorem lines_ok {r : Row} : ∀ (es : List Nat) (i : Nat), isBreaking r i es = true → ∀ p ∈ linesOf i es, p.1 ≤ p.2 ∧ p.2 < r.length ∧ mayEnd r p.2 = true
  | [], _, _, _, h => by cases h
  | j :: l, i, hb, p, h => by
    obtain ⟨a, b, c, d⟩ := isB_cons hb
    rcases List.mem_cons.mp h with e | e
    · subst e; exact ⟨a, b, c⟩
    · exact lines_ok l (j + 1) d p e
theorem breaks_len {r : Row} : ∀ (es : List Nat) (i : Nat), isBreaking r i es = true → es.length + i ≤ r.length
  | [], i, h => by
    have h' : decide (i = r.length) = true := h
    rw [decide_eq_true_iff] at h'
    simp; omega
  | j :: l, i, h => by
    obtain ⟨a, b, c, d⟩ := isB_cons h
    have := breaks_len l (j + 1) d
    rw [List.length_cons]; omega
/-! ### baselines -/
theorem base_len (lead gap : Int) : ∀ (rows : List Row) (o : Option (Int × Int)), (baselines lead gap o rows).length = rows.length
  | [], o => by cases o <;> rfl
  | l :: q, none => by show (baselines lead gap _ q).length + 1 = q.length + 1; rw [base_len]
  | l :: q, some (y, d) => by show (baselines lead gap _ q).length + 1 = q.length + 1; rw [base_len]
theorem base_zero (lead gap : Int) {rows : List Row} {l : Row} (h : rows[0]? = some l) : (baselines lead gap none rows)[0]? = some (-(heightOf l)) := by
  cases rows with
  | nil => cases h
  | cons a q =>
    have : a = l := by simpa using h
    subst this; rfl
theorem base_next (lead gap : Int) : ∀ (rows : List Row) (o : Option (Int × Int)) (k : Nat) (a b : Row) (y : Int), rows[k]? = some a → rows[k + 1]? = some b → (baselines lead gap o rows)[k]? = some y →
    (baselines lead gap o rows)[k + 1]? = some (y - max lead (depthOf a + gap + heightOf b))
  | [], _, _, _, _, _, h, _, _ => by cases h
  | l :: q, o, k, a, b, y, ha, hb, hy => by
    have main : ∀ z : Int, baselines lead gap o (l :: q) = z :: baselines lead gap (some (z, depthOf l)) q → (baselines lead gap o (l :: q))[k + 1]? = some (y - max lead (depthOf a + gap + heightOf b)) := fun z e => by
      rw [e] at hy ⊢
      rw [List.getElem?_cons_succ]
      cases k with
      | zero =>
        have e1 : l = a := by simpa using ha
        have e2 : z = y := by simpa using hy
        subst e1 e2
        cases q with
        | nil => cases hb
        | cons c q =>
          have e3 : c = b := by simpa using hb
          subst e3; rfl
      | succ k => exact base_next lead gap q _ k a b y (by simpa using ha) (by simpa using hb) (by simpa using hy)
    cases o with
    | none => exact main _ rfl
    | some p => obtain ⟨y0, d0⟩ := p; exact main _ rfl
/-! ### the greatest -/
theorem foldl_max (l : List Int) : ∀ a : Int, (∀ y ∈ a :: l, y ≤ l.foldl (fun (m : Int) x => max m x) a) ∧ l.foldl (fun (m : Int) x => max m x) a ∈ a :: l := by
  induction l with
  | nil => intro a; simp
  | cons b l ih =>
    intro a
    obtain ⟨h1, h2⟩ := ih (max a b)
    rw [List.foldl_cons]
    have hm := h1 (max a b) (List.mem_cons_self ..)
    refine ⟨fun y hy => ?_, ?_⟩
    · rcases List.mem_cons.mp hy with e | e
      · subst e; omega
      · rcases List.mem_cons.mp e with e | e
        · subst e; omega
        · exact h1 y (List.mem_cons_of_mem _ e)
    · rcases List.mem_cons.mp h2 with e | e
      · rw [e]
        rcases Int.le_total a b with z | z
        · rw [Int.max_eq_right z]; simp
        · rw [Int.max_eq_left z]; simp
      · exact List.mem_cons_of_mem _ (List.mem_cons_of_mem _ e)
theorem greatest_is {l : List Int} {M : Int} (h1 : M ∈ l) (h2 : ∀ y ∈ l, y ≤ M) : greatest l = M := by
  cases l with
  | nil => cases h1
  | cons a q =>
    obtain ⟨a1, a2⟩ := foldl_max q a
    have b1 := a1 M h1
    have b2 := h2 _ a2
    show q.foldl (fun (m : Int) x => max m x) a = M
    omega
theorem lsum_eq (l : List Int) : l.sum = Vamati.sum l := by
  induction l with
  | nil => rfl
  | cons a l ih => rw [List.sum_cons, sum_cons, ih]
/-! ### places by lines -/
abbrev PL (r : Row) (lead gap : Int) (ls : List (Nat × Nat)) : List (((Nat × Nat) × Row) × Int) := (ls.zip (rowsOf r ls)).zip (baselines lead gap none (rowsOf r ls))
abbrev FP (r : Row) (m : Measure) (even : Bool) (x : ((Nat × Nat) × Row) × Int) : List (Int × Int) := (xsOf m even (decide (x.1.1.2 + 1 = r.length)) x.1.1.1 x.1.2).map fun p => (p, x.2)
theorem places_eq (r : Row) (m : Measure) (even : Bool) (lead gap : Int) : placesOf r m even lead gap = (PL r lead gap (linesOf 0 (bestOf r m).ends)).flatMap (FP r m even) := rfl
theorem rows_get {r : Row} {ls : List (Nat × Nat)} {k : Nat} {p : Nat × Nat} (h : ls[k]? = some p) : (rowsOf r ls)[k]? = some (slice r p.1 p.2) := by
  unfold rowsOf; rw [List.getElem?_map, h]; rfl
theorem rows_len (r : Row) (ls : List (Nat × Nat)) : (rowsOf r ls).length = ls.length := by unfold rowsOf; rw [List.length_map]
theorem PL_get {r : Row} {lead gap : Int} {ls : List (Nat × Nat)} {k : Nat} {p : Nat × Nat} {y : Int} (h : ls[k]? = some p) (hy : (baselines lead gap none (rowsOf r ls))[k]? = some y) : (PL r lead gap ls)[k]? = some ((p, slice r p.1 p.2), y) := by
  rw [List.getElem?_zip_eq_some]
  refine ⟨?_, hy⟩
  rw [List.getElem?_zip_eq_some]
  exact ⟨h, rows_get h⟩
theorem PL_len (r : Row) (lead gap : Int) (ls : List (Nat × Nat)) : (PL r lead gap ls).length = ls.length := by
  rw [List.length_zip, List.length_zip, base_len, rows_len]; omega
theorem FP_flat (r : Row) (m : Measure) (even : Bool) (x : ((Nat × Nat) × Row) × Int) : (FP r m even x).flatMap (fun p => [p.1, p.2]) = (xsOf m even (decide (x.1.1.2 + 1 = r.length)) x.1.1.1 x.1.2).flatMap fun a => [a, x.2] := by
  rw [List.flatMap_map]
theorem xs_len (m : Measure) (even last : Bool) (i : Nat) (l : Row) : (xsOf m even last i l).length = l.length := by unfold xsOf; rw [List.length_map, List.length_range]
theorem drop_slice {r : Row} {i j : Nat} (hi : i ≤ j) (hj : j < r.length) : r.drop i = slice r i j ++ r.drop (j + 1) := by
  have e : r.take (j + 1) ++ r.drop (j + 1) = r := List.take_append_drop ..
  have h := congrArg (List.drop i) e
  rw [List.drop_append_of_le_length (by rw [List.length_take]; omega)] at h
  exact h.symm
theorem zip_lines {r : Row} {F : ((Nat × Nat) × Row) × Int → List (Int × Int)} (hF : ∀ x, (F x).length = x.1.2.length) : ∀ (es : List Nat) (i : Nat) (ys : List Int), isBreaking r i es = true → ys.length = es.length →
    ((((linesOf i es).zip (rowsOf r (linesOf i es))).zip ys).flatMap F).zip (r.drop i) = (((linesOf i es).zip (rowsOf r (linesOf i es))).zip ys).flatMap fun x => (F x).zip x.1.2
  | [], _, _, _, _ => by simp [linesOf, rowsOf]
  | j :: l, i, [], _, h => by simp at h
  | j :: l, i, y :: ys, hb, hl => by
    obtain ⟨a, b, c, d⟩ := isB_cons hb
    have ih := zip_lines hF l (j + 1) ys d (by simpa using hl)
    show (F ((((i, j), slice r i j)), y) ++ (((linesOf (j + 1) l).zip (rowsOf r (linesOf (j + 1) l))).zip ys).flatMap F).zip (r.drop i) = (F (((i, j), slice r i j), y)).zip (slice r i j) ++ (((linesOf (j + 1) l).zip (rowsOf r (linesOf (j + 1) l))).zip ys).flatMap fun x => (F x).zip x.1.2
    rw [drop_slice a b, List.zip_append (by rw [hF]), ih]
theorem good_slice {r : Row} (g : Good r) (i j : Nat) : Good (slice r i j) := by
  refine ⟨?_, fun a ha => g.it a (List.mem_of_mem_take (List.mem_of_mem_drop ha))⟩
  have := g.few
  unfold slice; rw [List.length_drop, List.length_take]; omega
/-- right edges of a line's items -/
theorem line_right {l : Row} (g : Good l) {k : Nat} (hk : k < l.length) : beg l k + l[k].width ≤ naturalOf l ∧ (k + 1 = l.length → beg l k + l[k].width = naturalOf l) := by
  have e : stp l k = beg l k + l[k].width := by unfold stp; rw [wid_eq hk]
  rw [natural_row (by omega), ← e]
  refine ⟨?_, fun h => by rw [show l.length - 1 = k by omega]⟩
  rcases Nat.eq_or_lt_of_le (show k ≤ l.length - 1 by omega) with z | z
  · rw [← z]; exact Int.le_refl _
  · exact (stp_mono g z (by omega)).1
theorem nat_nonneg {l : Row} (g : Good l) (h : 0 < l.length) : 0 ≤ naturalOf l := by
  have := natural_bound g (i := 0) (j := l.length - 1) (by omega) (by omega)
  rw [natural_row h]
  rw [beg_zero] at this
  omega
theorem indent_nonneg {m : Measure} (gm : GoodM m) (i : Nat) : 0 ≤ indentOf m i := by
  obtain ⟨a, b, c⟩ := gm
  unfold indentOf; split <;> omega
theorem xs_get {m : Measure} {i : Nat} {last : Bool} {l : Row} {k : Nat} (hk : k < l.length) : (xsOf m false last i l)[k]? = some (indentOf m i + beg l k) := by
  unfold xsOf
  rw [List.getElem?_map, List.getElem?_range hk]
  show some (_ + _ + 0) = _
  rw [Int.add_zero]; rfl
theorem box_right {r : Row} (g : Good r) {m : Measure} (gm : GoodM m) (lead gap : Int) {M : Int}
    (h1 : M ∈ (linesOf 0 (bestOf r m).ends).map fun p => indentOf m p.1 + naturalOf (slice r p.1 p.2)) (h2 : ∀ y ∈ (linesOf 0 (bestOf r m).ends).map (fun p => indentOf m p.1 + naturalOf (slice r p.1 p.2)), y ≤ M) :
    greatest (0 :: ((placesOf r m false lead gap).zip r).map fun x => x.1.1 + x.2.width) = M := by
  have hb := (B_breaks g gm (m := m) r.length 0 (by omega)).2
  rw [← bestOf_eq] at hb
  rw [places_eq]
  have hz := zip_lines (F := FP r m false) (fun x => by rw [List.length_map, xs_len]) (bestOf r m).ends 0 (baselines lead gap none (rowsOf r (linesOf 0 (bestOf r m).ends))) hb (by rw [base_len, rows_len, linesOf_len])
  rw [List.drop_zero] at hz
  rw [hz]
  have hok := lines_ok _ _ hb
  have hP := PL_len r lead gap (linesOf 0 (bestOf r m).ends)
  -- an item of a line
  have lineIt : ∀ (p : Nat × Nat) (y : Int) (k : Nat) (hk : k < (slice r p.1 p.2).length), ((FP r m false ((p, slice r p.1 p.2), y)).zip (slice r p.1 p.2))[k]? = some ((indentOf m p.1 + beg (slice r p.1 p.2) k, y), (slice r p.1 p.2)[k]) := fun p y k hk => by
    rw [List.getElem?_zip_eq_some]
    refine ⟨?_, List.getElem?_eq_getElem hk⟩
    rw [List.getElem?_map, xs_get hk]; rfl
  have memPL : ∀ x ∈ PL r lead gap (linesOf 0 (bestOf r m).ends), x.1.1 ∈ linesOf 0 (bestOf r m).ends ∧ x.1.2 = slice r x.1.1.1 x.1.1.2 := fun x hx => by
    obtain ⟨k, hk⟩ := List.getElem?_of_mem hx
    rw [List.getElem?_zip_eq_some] at hk
    have hk1 := hk.1
    rw [List.getElem?_zip_eq_some] at hk1
    refine ⟨List.mem_of_getElem? hk1.1, ?_⟩
    have := rows_get (r := r) hk1.1
    rw [hk1.2] at this
    exact Option.some.inj this
  apply greatest_is
  · obtain ⟨p, hp, rfl⟩ := List.mem_map.mp h1
    obtain ⟨a, b, c⟩ := hok p hp
    have hl := slice_len a b
    obtain ⟨k, hk⟩ := List.getElem?_of_mem hp
    have hk' : k < (linesOf 0 (bestOf r m).ends).length := (List.getElem?_eq_some_iff.mp hk).1
    obtain ⟨y, hy⟩ : ∃ y, (baselines lead gap none (rowsOf r (linesOf 0 (bestOf r m).ends)))[k]? = some y := ⟨_, List.getElem?_eq_getElem (by rw [base_len, rows_len]; exact hk')⟩
    have hx := List.mem_of_getElem? (PL_get (r := r) hk hy)
    refine List.mem_cons_of_mem _ (List.mem_map.mpr ⟨_, List.mem_flatMap.mpr ⟨_, hx, List.mem_of_getElem? (lineIt p y (p.2 - p.1) (by rw [hl]; omega))⟩, ?_⟩)
    have := (line_right (good_slice g p.1 p.2) (k := p.2 - p.1) (by rw [hl]; omega)).2 (by rw [hl]; omega)
    simp only
    omega
  · intro y hy
    have nonneg : 0 ≤ M := by
      obtain ⟨p, hp, rfl⟩ := List.mem_map.mp h1
      obtain ⟨a, b, c⟩ := hok p hp
      have := nat_nonneg (good_slice g p.1 p.2) (by rw [slice_len a b]; omega)
      have := indent_nonneg gm p.1
      omega
    rcases List.mem_cons.mp hy with e | e
    · rw [e]; exact nonneg
    · obtain ⟨q, hq, rfl⟩ := List.mem_map.mp e
      obtain ⟨x, hx, hq2⟩ := List.mem_flatMap.mp hq
      obtain ⟨⟨p, l⟩, yy⟩ := x
      obtain ⟨hp, hl⟩ := memPL _ hx
      have hl' : l = slice r p.1 p.2 := hl
      subst hl'
      obtain ⟨k, hk⟩ := List.getElem?_of_mem hq2
      have hlt : k < (slice r p.1 p.2).length := by
        rw [List.getElem?_zip_eq_some] at hk
        exact (List.getElem?_eq_some_iff.mp hk.2).1
      have e2 := hk.symm.trans (lineIt p yy k hlt)
      have e3 := Option.some.inj e2
      rw [e3]
      have hM := h2 _ (List.mem_map.mpr ⟨p, hp, rfl⟩)
      have := (line_right (good_slice g p.1 p.2) hlt).1
      simp only
      omega
theorem flat_last {α β : Type} {f : α → List β} {l : List α} {x : α} {z : β} (h : (f x).getLast? = some z) : ((l ++ [x]).flatMap f).getLast? = some z := by
  rw [List.flatMap_append]
  have e : [x].flatMap f = f x := by simp
  rw [e, List.getLast?_append, h]; rfl
theorem box_last {r : Row} (g : Good r) {m : Measure} (gm : GoodM m) (lead gap : Int) {p : Nat × Nat} {y : Int} {n : Nat} (hn : (linesOf 0 (bestOf r m).ends).length = n + 1) (hp : (linesOf 0 (bestOf r m).ends)[n]? = some p)
    (hy : (baselines lead gap none (rowsOf r (linesOf 0 (bestOf r m).ends)))[n]? = some y) :
    ((placesOf r m false lead gap).getLast?.map fun p => p.2).getD 0 = y ∧ ((linesOf 0 (bestOf r m).ends).getLast?.map fun p => depthOf (slice r p.1 p.2)).getD 0 = depthOf (slice r p.1 p.2) := by
  have hb := (B_breaks g gm (m := m) r.length 0 (by omega)).2
  rw [← bestOf_eq] at hb
  obtain ⟨a, b, c⟩ := lines_ok _ _ hb p (List.mem_of_getElem? hp)
  have hl := slice_len a b
  constructor
  · rw [places_eq]
    have hg := PL_get (r := r) hp hy
    have hlen := PL_len r lead gap (linesOf 0 (bestOf r m).ends)
    generalize PL r lead gap (linesOf 0 (bestOf r m).ends) = L at hg hlen
    have hlast : L.getLast? = some ((p, slice r p.1 p.2), y) := by rw [List.getLast?_eq_getElem?, hlen, hn]; exact hg
    obtain ⟨q, rfl⟩ := List.getLast?_eq_some_iff.mp hlast
    have hF : (FP r m false ((p, slice r p.1 p.2), y)).getLast? = some (indentOf m p.1 + beg (slice r p.1 p.2) (p.2 - p.1), y) := by
      rw [List.getLast?_eq_getElem?, List.length_map, xs_len, List.getElem?_map]
      show ((xsOf m false _ p.1 (slice r p.1 p.2))[(slice r p.1 p.2).length - 1]?).map _ = _
      rw [hl, show p.2 + 1 - p.1 - 1 = p.2 - p.1 by omega, xs_get (by rw [hl]; omega)]; rfl
    rw [flat_last hF]; rfl
  · rw [List.getLast?_eq_getElem?, hn]
    rw [show n + 1 - 1 = n by omega, hp]; rfl
end BL

set_option linter.all false
namespace TZ
open PySem
/-! two tuples walked side by side by zip -/
section
variable {prog : Program} {w : World} {A : Around} {E : Value → Shared → Prop} {s : Shared}
/-- the next item of a tuple's iterator -/
theorem nx_item {j t : Addr} {k : Nat} {ys : Array Value} {y : Value} {R : Value → Shared → Prop} (st : s.heap.IsTupleIter j t k) (tt : s.heap.IsTuple t ys) (yk : ys[k]? = some y)
    (go : ∀ g, g.IsTupleIter j t (k + 1) → Heap.SameBut j s.heap g → R y { s with heap := g }) : wpAny (model prog w) A (Builtin.SmallTypes.nextOf (.ref j)) R E s := by
  obtain ⟨oj, gj, cj, dj⟩ := id st
  obtain ⟨ot, gt, _, nt, dt⟩ := tt
  unfold Builtin.SmallTypes.nextOf
  refine wpAny_bind (wpAny_callSpecial?_slot (name := Str.ofString "__next__") st.typeIs F.slot_tuple_iterator_next (wpAny_call_entry F.slot_tuple_iterator_next st.typeIs F.entry_tuple_iterator_next ?_ (F.args_tuple_iterator_next_1 _)))
  show wpAny _ _ (field (.ref j) 0 >>= _) _ _ s
  refine wpAny_bind (wpAny_field gj dj (x := .ref t) rfl ?_)
  show wpAny _ _ (if (Value.ref t == Value.none) = true then _ else _) _ _ s; rw [if_neg (show ¬ (Value.ref t == Value.none) = true from Bool.false_ne_true)]
  show wpAny _ _ (field (.ref j) 1 >>= _) _ _ s
  refine wpAny_bind (wpAny_field gj dj (x := .int k 0) rfl ?_)
  show wpAny _ _ (seqItems? (.ref t) >>= _) _ _ s; refine wpAny_bind (wpAny_seqItems gt dt ?_)
  simp only [Int.toNat_natCast, yk]
  refine wpAny_bind (wpAny_setField gj dj (by simp) (wpAny_pure ⟨y, rfl, wpAny_pure (go _ ?_ (Heap.SameBut.update ..))⟩))
  exact ⟨_, Heap.get?_update_self _ gj (Obj.isFreed_of_fields (Obj.data_mapFields dj _)), (Obj.cls_mapFields ..).trans cj, by rw [Obj.data_mapFields dj]; simp [rawInt]⟩
/-- .. where there is none -/
theorem nx_end {j t : Addr} {k : Nat} {ys : Array Value} {R : Value → Shared → Prop} (calm : A.handled = none) (st : s.heap.IsTupleIter j t k) (tt : s.heap.IsTuple t ys) (yk : ys[k]? = none)
    (go : ∀ g e, Heap.ExtBut j s.heap g → (∃ o, g.get? e = some o ∧ o.cls = .type "StopIteration") → E (.ref e) { s with heap := g }) : wpAny (model prog w) A (Builtin.SmallTypes.nextOf (.ref j)) R E s := by
  obtain ⟨oj, gj, cj, dj⟩ := id st
  obtain ⟨ot, gt, _, nt, dt⟩ := tt
  unfold Builtin.SmallTypes.nextOf
  refine wpAny_bind (wpAny_callSpecial?_slot (name := Str.ofString "__next__") st.typeIs F.slot_tuple_iterator_next (wpAny_call_entry F.slot_tuple_iterator_next st.typeIs F.entry_tuple_iterator_next ?_ (F.args_tuple_iterator_next_1 _)))
  show wpAny _ _ (field (.ref j) 0 >>= _) _ _ s
  refine wpAny_bind (wpAny_field gj dj (x := .ref t) rfl ?_)
  show wpAny _ _ (if (Value.ref t == Value.none) = true then _ else _) _ _ s; rw [if_neg (show ¬ (Value.ref t == Value.none) = true from Bool.false_ne_true)]
  show wpAny _ _ (field (.ref j) 1 >>= _) _ _ s
  refine wpAny_bind (wpAny_field gj dj (x := .int k 0) rfl ?_)
  show wpAny _ _ (seqItems? (.ref t) >>= _) _ _ s; refine wpAny_bind (wpAny_seqItems gt dt ?_)
  simp only [Int.toNat_natCast, yk]
  refine wpAny_bind (wpAny_rule (wpAny_bind (wpAny_setField gj dj (by simp) ?_)))
  show wpAny _ _ (newExc (.type "StopIteration") [] >>= _) _ _ _; refine wpAny_bind ?_; simp only [newExc, newTuple]
  refine wpAny_bind (wpAny_newObj_type ?_ (by size_fits)); refine wpAny_bind (m := firstArgMember _ _) (wpAny_of_eq (a := Value.none) (by first | rfl | (simp only [firstArgMember]; rfl)) ?_)
  refine wpAny_newObj_type ?_ (by size_fits); simp only [raiseNew]; refine wpAny_bind (wpAny_handled ?_)
  first | rw [show A.in1.handled = none from calm] | rw [calm]
  exact wpAny_bind (wpAny_pure (wpAny_throw (go _ _ (((Heap.SameBut.update ..).extBut.push _).push _) ⟨_, Heap.get?_push_size _ rfl, rfl⟩)))
/-- both have an item -/
theorem zp_item {z TI TO j1 j2 t1 t2 : Addr} {k1 k2 : Nat} {xs ys : Array Value} {x y a b : Value} {R : Value → Shared → Prop} (D : ZipApart z TI TO j1 j2 t1 t2)
    (az : IsZip s.heap z TI TO .none) (aI : IsPair s.heap TI (.ref j1) (.ref j2)) (aO : IsPair s.heap TO a b)
    (a1 : s.heap.IsTupleIter j1 t1 k1) (a2 : s.heap.IsTupleIter j2 t2 k2) (u1 : s.heap.IsTuple t1 xs) (u2 : s.heap.IsTuple t2 ys) (xk : xs[k1]? = some x) (yk : ys[k2]? = some y)
    (go : ∀ g, IsZip g z TI TO (rawInt s.heap.objs.size) → IsPair g TO x y → g.IsTupleIter j1 t1 (k1 + 1) → g.IsTupleIter j2 t2 (k2 + 1) → IsPair g s.heap.objs.size x y → g.objs.size = s.heap.objs.size + 1 →
      (∀ c o, c ≠ z → c ≠ TO → c ≠ j1 → c ≠ j2 → s.heap.get? c = some o → g.get? c = some o) → R (.ref s.heap.objs.size) { s with heap := g }) :
    wpAny (model prog w) A (Builtin.«zip.__next__» ⟨[.ref z], []⟩) (fun fin s' => ∃ v, fin = .done (.ret v) ∧ R v s') E s := by
  show wpAny _ _ (field (.ref z) 2 >>= _) _ _ _; refine wpAny_bind (wpAny_field az rfl (x := .bool false) rfl ?_)
  show wpAny _ _ (field (.ref z) 3 >>= _) _ _ _; refine wpAny_bind (wpAny_field az rfl (x := .ref TI) rfl ?_)
  refine wpAny_bind (wpAny_seqItems aI rfl ?_)
  show wpAny _ _ (Builtin.SmallTypes.ownedTupleIsFree (.ref z) >>= _) _ _ _; refine wpAny_bind ?_; unfold Builtin.SmallTypes.ownedTupleIsFree
  refine wpAny_bind (wpAny_field az rfl (x := .none) rfl (wpAny_pure ?_)); simp only [if_true]; refine wpAny_bind (wpAny_rule ?_)
  refine wpAny_bind (wpAny_field az rfl (x := .ref TO) rfl ?_)
  refine wpAny_bind (wpAny_setField_rec az (by simp) fun g1 z1 e1 => ?_)
  replace z1 : IsZip g1 z TI TO .ellipsis := z1
  refine wpAny_bind ?_; simp only [List.zipIdx_cons, List.zipIdx_nil, List.forIn_cons, List.forIn_nil]
  refine wpAny_bind (wpAny_bind (wpAny_onRaise ?_)); show wpAny _ _ (Builtin.SmallTypes.nextOf (.ref j1) >>= _) _ _ _
  refine wpAny_bind (nx_item (a1.extBut e1.extBut D.i1z) (u1.extBut e1.extBut D.l1z) xk fun g2 i2 e2 => wpAny_pure ?_)
  have O2 : IsPair g2 TO a b := e2.extBut _ _ D.TOi1 (e1.extBut _ _ D.TOz aO)
  refine wpAny_bind (wpAny_seqItems O2 rfl ?_); refine wpAny_bind (wpAny_updateSeq_pair O2 fun g3 O3 e3 => ?_)
  replace O3 : IsPair g3 TO x b := O3
  refine wpAny_bind (wpAny_letGo (wpAny_pure ?_)); refine wpAny_bind (wpAny_bind (wpAny_onRaise ?_)); show wpAny _ _ (Builtin.SmallTypes.nextOf (.ref j2) >>= _) _ _ _
  refine wpAny_bind (nx_item (((a2.extBut e1.extBut D.i2z).extBut e2.extBut D.i12.symm).extBut e3.extBut D.TOi2.symm) (((u2.extBut e1.extBut D.l2z).extBut e2.extBut D.l2i1).extBut e3.extBut D.l2TO) yk fun g4 i4 e4 => wpAny_pure ?_)
  have O4 : IsPair g4 TO x b := e4.extBut _ _ D.TOi2 O3
  refine wpAny_bind (wpAny_seqItems O4 rfl ?_); refine wpAny_bind (wpAny_updateSeq_pair O4 fun g5 O5 e5 => ?_)
  replace O5 : IsPair g5 TO x y := O5
  refine wpAny_bind (wpAny_letGo (wpAny_pure (wpAny_pure ?_))); refine wpAny_bind (wpAny_seqItems O5 rfl ?_); refine wpAny_bind (wpAny_newTuple ?_)
  have sz : g5.objs.size = s.heap.objs.size := by rw [e5.1, e4.1, e3.1, e2.1, e1.1]
  have z5 : IsZip g5 z TI TO .ellipsis := e5.extBut _ _ D.TOz.symm (e4.extBut _ _ D.i2z.symm (e3.extBut _ _ D.TOz.symm (e2.extBut _ _ D.i1z.symm z1)))
  have k5 : ∀ c o, c ≠ z → c ≠ TO → c ≠ j1 → c ≠ j2 → s.heap.get? c = some o → g5.get? c = some o := fun c o c1 c2 c3 c4 e => e5.extBut _ _ c2 (e4.extBut _ _ c4 (e3.extBut _ _ c2 (e2.extBut _ _ c3 (e1.extBut _ _ c1 e))))
  have p1 : g5.IsTupleIter j1 t1 (k1 + 1) := ((i2.extBut e3.extBut D.TOi1.symm).extBut e4.extBut D.i12).extBut e5.extBut D.TOi1.symm
  have p2 : g5.IsTupleIter j2 t2 (k2 + 1) := i4.extBut e5.extBut D.TOi2.symm
  have lz : z < g5.objs.size := Heap.lt_size z5
  show wpAny _ _ (Builtin.SmallTypes.ownedTupleHandOut (.ref z) (.ref g5.objs.size) >>= _) _ _ _; refine wpAny_bind ?_; unfold Builtin.SmallTypes.ownedTupleHandOut
  have z6 : IsZip (g5.push { cls := .type "tuple", data := .seq #[x, y] }) z TI TO .ellipsis := Heap.get?_push_of_some _ z5
  refine wpAny_bind (wpAny_setField_rec z6 (by simp) fun g7 z7 e7 => ?_)
  replace z7 : IsZip g7 z TI TO (rawInt g5.objs.size) := z7
  refine wpAny_setField_rec z7 (by simp) fun g8 z8 e8 => ?_
  replace z8 : IsZip g8 z TI TO (rawInt g5.objs.size) := z8
  have up : ∀ c o, c ≠ z → g5.get? c = some o → g8.get? c = some o := fun c o c1 e => e8.extBut _ _ c1 (e7.extBut _ _ c1 (Heap.get?_push_of_some _ e))
  have T8 : IsPair g8 g5.objs.size x y := e8.extBut _ _ (Nat.ne_of_gt lz) (e7.extBut _ _ (Nat.ne_of_gt lz) (Heap.get?_push_size _ rfl))
  have s8 : g8.objs.size = g5.objs.size + 1 := by rw [e8.1, e7.1, Heap.size_push]
  rw [sz] at z8 T8 s8
  refine wpAny_pure ⟨_, rfl, ?_⟩
  show R (.ref g5.objs.size) _; rw [sz]
  exact go g8 z8 (up _ _ D.TOz O5) (p1.at fun o e => up _ o D.i1z e) (p2.at fun o e => up _ o D.i2z e) T8 s8 fun c o c1 c2 c3 c4 e => up c o c1 (k5 c o c1 c2 c3 c4 e)
/-- one of them is at its end -/
theorem zp_end {z TI TO j1 j2 t1 t2 : Addr} {k1 k2 : Nat} {xs ys : Array Value} {a b : Value} {R : Fin → Shared → Prop} (calm : A.handled = none) (D : ZipApart z TI TO j1 j2 t1 t2)
    (az : IsZip s.heap z TI TO .none) (aI : IsPair s.heap TI (.ref j1) (.ref j2)) (aO : IsPair s.heap TO a b)
    (a1 : s.heap.IsTupleIter j1 t1 k1) (a2 : s.heap.IsTupleIter j2 t2 k2) (u1 : s.heap.IsTuple t1 xs) (u2 : s.heap.IsTuple t2 ys) (stop : xs[k1]? = none ∨ ys[k2]? = none)
    (go : ∀ g e, (∀ c o, c ≠ z → c ≠ TO → c ≠ j1 → c ≠ j2 → s.heap.get? c = some o → g.get? c = some o) → (∃ o, g.get? e = some o ∧ o.cls = .type "StopIteration") → E (.ref e) { s with heap := g }) :
    wpAny (model prog w) A (Builtin.«zip.__next__» ⟨[.ref z], []⟩) R E s := by
  show wpAny _ _ (field (.ref z) 2 >>= _) _ _ _; refine wpAny_bind (wpAny_field az rfl (x := .bool false) rfl ?_)
  show wpAny _ _ (field (.ref z) 3 >>= _) _ _ _; refine wpAny_bind (wpAny_field az rfl (x := .ref TI) rfl ?_)
  refine wpAny_bind (wpAny_seqItems aI rfl ?_)
  show wpAny _ _ (Builtin.SmallTypes.ownedTupleIsFree (.ref z) >>= _) _ _ _; refine wpAny_bind ?_; unfold Builtin.SmallTypes.ownedTupleIsFree
  refine wpAny_bind (wpAny_field az rfl (x := .none) rfl (wpAny_pure ?_)); simp only [if_true]; refine wpAny_bind (wpAny_rule ?_)
  refine wpAny_bind (wpAny_field az rfl (x := .ref TO) rfl ?_)
  refine wpAny_bind (wpAny_setField_rec az (by simp) fun g1 z1 e1 => ?_)
  replace z1 : IsZip g1 z TI TO .ellipsis := z1
  refine wpAny_bind ?_; simp only [List.zipIdx_cons, List.zipIdx_nil, List.forIn_cons, List.forIn_nil]
  refine wpAny_bind (wpAny_bind (wpAny_onRaise ?_)); show wpAny _ _ (Builtin.SmallTypes.nextOf (.ref j1) >>= _) _ _ _
  cases xk : xs[k1]? with
  | none =>
    refine wpAny_bind (nx_end calm (a1.extBut e1.extBut D.i1z) (u1.extBut e1.extBut D.l1z) xk fun g2 e e2 he => ?_)
    obtain ⟨oe, ge, ce⟩ := he
    have z2 : IsZip g2 z TI TO .ellipsis := e2 _ _ D.i1z.symm z1
    have ez : e ≠ z := fun q => by subst q; rw [z2] at ge; cases ge; simp at ce
    exact wpAny_setField_rec z2 (by simp) fun g3 _ e3 => go g3 e (fun c o c1 _ c3 _ q => e3.extBut _ _ c1 (e2 _ _ c3 (e1.extBut _ _ c1 q))) ⟨oe, e3.extBut _ _ ez ge, ce⟩
  | some x =>
    have yk : ys[k2]? = none := stop.resolve_left fun q => by rw [xk] at q; cases q
    refine wpAny_bind (nx_item (a1.extBut e1.extBut D.i1z) (u1.extBut e1.extBut D.l1z) xk fun g2 i2 e2 => wpAny_pure ?_)
    have O2 : IsPair g2 TO a b := e2.extBut _ _ D.TOi1 (e1.extBut _ _ D.TOz aO)
    refine wpAny_bind (wpAny_seqItems O2 rfl ?_); refine wpAny_bind (wpAny_updateSeq_pair O2 fun g3 O3 e3 => ?_)
    refine wpAny_bind (wpAny_letGo (wpAny_pure ?_)); refine wpAny_bind (wpAny_bind (wpAny_onRaise ?_)); show wpAny _ _ (Builtin.SmallTypes.nextOf (.ref j2) >>= _) _ _ _
    refine wpAny_bind (nx_end calm (((a2.extBut e1.extBut D.i2z).extBut e2.extBut D.i12.symm).extBut e3.extBut D.TOi2.symm) (((u2.extBut e1.extBut D.l2z).extBut e2.extBut D.l2i1).extBut e3.extBut D.l2TO) yk fun g4 e e4 he => ?_)
    obtain ⟨oe, ge, ce⟩ := he
    have z4 : IsZip g4 z TI TO .ellipsis := e4 _ _ D.i2z.symm (e3.extBut _ _ D.TOz.symm (e2.extBut _ _ D.i1z.symm z1))
    have ez : e ≠ z := fun q => by subst q; rw [z4] at ge; cases ge; simp at ce
    exact wpAny_setField_rec z4 (by simp) fun g5 _ e5 => go g5 e (fun c o c1 c2 c3 c4 q => e5.extBut _ _ c1 (e4 _ _ c4 (e3.extBut _ _ c2 (e2.extBut _ _ c3 (e1.extBut _ _ c1 q))))) ⟨oe, e5.extBut _ _ ez ge, ce⟩
theorem py_item {z TI TO j1 j2 t1 t2 : Addr} {k1 k2 : Nat} {xs ys : Array Value} {x y a b : Value} {R : Option Value → Shared → Prop} (D : ZipApart z TI TO j1 j2 t1 t2)
    (az : IsZip s.heap z TI TO .none) (aI : IsPair s.heap TI (.ref j1) (.ref j2)) (aO : IsPair s.heap TO a b)
    (a1 : s.heap.IsTupleIter j1 t1 k1) (a2 : s.heap.IsTupleIter j2 t2 k2) (u1 : s.heap.IsTuple t1 xs) (u2 : s.heap.IsTuple t2 ys) (xk : xs[k1]? = some x) (yk : ys[k2]? = some y)
    (go : ∀ g, IsZip g z TI TO (rawInt s.heap.objs.size) → IsPair g TO x y → g.IsTupleIter j1 t1 (k1 + 1) → g.IsTupleIter j2 t2 (k2 + 1) → IsPair g s.heap.objs.size x y → g.objs.size = s.heap.objs.size + 1 →
      (∀ c o, c ≠ z → c ≠ TO → c ≠ j1 → c ≠ j2 → s.heap.get? c = some o → g.get? c = some o) → R (some (.ref s.heap.objs.size)) { s with heap := g }) :
    wpAny (model prog w) A (pyNext (.ref z)) R E s := by
  have ty : s.TypeIs (.ref z) "zip" := ⟨_, az, rfl⟩
  unfold pyNext
  exact wpAny_bind (wpAny_attempt (wpAny_callSpecial?_slot (name := Str.ofString "__next__") ty F.slot_zip_next (wpAny_call_entry F.slot_zip_next ty F.entry_zip_next
    (zp_item D az aI aO a1 a2 u1 u2 xk yk fun g b1 b2 b3 b4 b5 b6 b7 => wpAny_pure (go g b1 b2 b3 b4 b5 b6 b7)) (F.args_zip_next_1 _))))
theorem py_end {z TI TO j1 j2 t1 t2 : Addr} {k1 k2 : Nat} {xs ys : Array Value} {a b : Value} {R : Option Value → Shared → Prop} (calm : A.handled = none) (D : ZipApart z TI TO j1 j2 t1 t2)
    (az : IsZip s.heap z TI TO .none) (aI : IsPair s.heap TI (.ref j1) (.ref j2)) (aO : IsPair s.heap TO a b)
    (a1 : s.heap.IsTupleIter j1 t1 k1) (a2 : s.heap.IsTupleIter j2 t2 k2) (u1 : s.heap.IsTuple t1 xs) (u2 : s.heap.IsTuple t2 ys) (stop : xs[k1]? = none ∨ ys[k2]? = none)
    (go : ∀ g, (∀ c o, c ≠ z → c ≠ TO → c ≠ j1 → c ≠ j2 → s.heap.get? c = some o → g.get? c = some o) → R none { s with heap := g }) : wpAny (model prog w) A (pyNext (.ref z)) R E s := by
  have ty : s.TypeIs (.ref z) "zip" := ⟨_, az, rfl⟩
  unfold pyNext
  refine wpAny_bind (wpAny_attempt (wpAny_callSpecial?_slot (name := Str.ofString "__next__") ty F.slot_zip_next (wpAny_call_entry F.slot_zip_next ty F.entry_zip_next (zp_end calm D az aI aO a1 a2 u1 u2 stop fun g e kp he => ?_) (F.args_zip_next_1 _))))
  obtain ⟨o, ge, ce⟩ := he
  exact wpAny_bind (wpAny_isInstance (T := "StopIteration") (b := true) ⟨o, ge, ce⟩ isSubtype_stop (wpAny_pure (go _ kp)))
end
abbrev zH1 (h : Heap) (a : Addr) : Heap := h.push { cls := .type "tuple_iterator", data := .fields #[.ref a, .int 0 0] }
abbrev zH2 (h : Heap) (a b : Addr) : Heap := (zH1 h a).push { cls := .type "tuple_iterator", data := .fields #[.ref b, .int 0 0] }
abbrev zH3 (h : Heap) (a b : Addr) : Heap := (zH2 h a b).push { cls := .type "tuple", data := .seq #[.ref h.objs.size, .ref (zH1 h a).objs.size] }
abbrev zH4 (h : Heap) (a b : Addr) : Heap := (zH3 h a b).push { cls := .type "tuple", data := .seq #[.none, .none] }
abbrev zH5 (h : Heap) (a b : Addr) : Heap := (zH4 h a b).push { cls := .type "zip", data := .fields #[.none, .bool false, .bool false, .ref (zH2 h a b).objs.size, .ref (zH3 h a b).objs.size] }
theorem new_meets (t1 t2 : Addr) (xs ys : Array Value) :
    Meets (Builtin.«zip.__new__» ⟨[.type "zip", .ref t1, .ref t2], []⟩) (fun _ R s => s.heap.IsTuple t1 xs ∧ s.heap.IsTuple t2 ys ∧ R (.ok (.ret (.ref (zH4 s.heap t1 t2).objs.size))) { s with heap := zH5 s.heap t1 t2 }) :=
  .of_wp fun prog w A R s h => by
    obtain ⟨hp, g, d, tk, os⟩ := s; obtain ⟨q1, q2, q⟩ := h
    have sb := sub_zip
    have T1 : Heap.IsTuple (Shared.heap ⟨hp, g, d, tk, os⟩) t1 xs := q1
    have T2 : Heap.IsTuple (Shared.heap ⟨hp.push { cls := .type "tuple_iterator", data := .fields #[.ref t1, .int 0 0] }, g, d, tk, os⟩) t2 ys := Heap.IsTuple.push q2 _
    wp_walk using wpAny_pyIter_tuple T1, wpAny_pyIter_tuple T2
    exact ⟨_, rfl, q⟩
section
variable {prog : Program} {w : World} {A : Around} {E : Value → Shared → Prop} {s : Shared}
theorem call_new {t1 t2 : Addr} {xs ys : Array Value} {R : Value → Shared → Prop} (u1 : s.heap.IsTuple t1 xs) (u2 : s.heap.IsTuple t2 ys)
    (go : ∀ g, IsZip g (s.heap.objs.size + 4) (s.heap.objs.size + 2) (s.heap.objs.size + 3) .none → IsPair g (s.heap.objs.size + 2) (.ref s.heap.objs.size) (.ref (s.heap.objs.size + 1)) →
      IsPair g (s.heap.objs.size + 3) .none .none → g.IsTupleIter s.heap.objs.size t1 0 → g.IsTupleIter (s.heap.objs.size + 1) t2 0 → g.objs.size = s.heap.objs.size + 5 →
      (∀ c o, s.heap.get? c = some o → g.get? c = some o) → R (.ref (s.heap.objs.size + 4)) { s with heap := g }) :
    wpAny (model prog w) A (call (.type "zip") [.ref t1, .ref t2]) R E s := by
  refine callType_new F.called_zip (by decide) (F.typeCall_zip_2 _ _) (F.newCall_zip_2 _ _) (fun obj => F.args_object_init_3 obj _ _) F.entry_zip_new (new_meets t1 t2 xs ys) ⟨u1, u2, ?_⟩
  have n1 : (zH1 s.heap t1).objs.size = s.heap.objs.size + 1 := Heap.size_push ..
  have n2 : (zH2 s.heap t1 t2).objs.size = s.heap.objs.size + 2 := by rw [Heap.size_push, n1]
  have n3 : (zH3 s.heap t1 t2).objs.size = s.heap.objs.size + 3 := by rw [Heap.size_push, n2]
  have n4 : (zH4 s.heap t1 t2).objs.size = s.heap.objs.size + 4 := by rw [Heap.size_push, n3]
  have n5 : (zH5 s.heap t1 t2).objs.size = s.heap.objs.size + 5 := by rw [Heap.size_push, n4]
  have o5 : (zH5 s.heap t1 t2).get? (zH4 s.heap t1 t2).objs.size = some _ := Heap.get?_push_size _ rfl
  have o4 : (zH5 s.heap t1 t2).get? (zH3 s.heap t1 t2).objs.size = some _ := Heap.get?_push_of_some _ (Heap.get?_push_size _ rfl)
  have o3 : (zH5 s.heap t1 t2).get? (zH2 s.heap t1 t2).objs.size = some _ := Heap.get?_push_of_some _ (Heap.get?_push_of_some _ (Heap.get?_push_size _ rfl))
  have o2 : (zH5 s.heap t1 t2).get? (zH1 s.heap t1).objs.size = some _ := Heap.get?_push_of_some _ (Heap.get?_push_of_some _ (Heap.get?_push_of_some _ (Heap.get?_push_size _ rfl)))
  have o1 : (zH5 s.heap t1 t2).get? s.heap.objs.size = some _ := Heap.get?_push_of_some _ (Heap.get?_push_of_some _ (Heap.get?_push_of_some _ (Heap.get?_push_of_some _ (Heap.get?_push_size _ rfl))))
  show _ ∧ _
  rw [n2, n3, n4] at o5; rw [n1, n2] at o3; rw [n3] at o4; rw [n1] at o2; rw [n4]
  exact ⟨⟨_, o5, rfl⟩, go _ o5 o3 o4 ⟨_, o1, rfl, rfl⟩ ⟨_, o2, rfl, rfl⟩ n5 fun c o q => Heap.get?_push_of_some _ (Heap.get?_push_of_some _ (Heap.get?_push_of_some _ (Heap.get?_push_of_some _ (Heap.get?_push_of_some _ q))))⟩
end
end TZ

set_option linter.all false
namespace LZ
open PySem
/-! a list and a tuple walked side by side by zip -/
section
variable {prog : Program} {w : World} {A : Around} {E : Value → Shared → Prop} {s : Shared}
/-- both have an item -/
theorem zp_item {z TI TO j1 j2 t1 t2 : Addr} {k1 k2 : Nat} {xs ys : Array Value} {x y a b : Value} {R : Value → Shared → Prop} (D : ZipApart z TI TO j1 j2 t1 t2)
    (az : IsZip s.heap z TI TO .none) (aI : IsPair s.heap TI (.ref j1) (.ref j2)) (aO : IsPair s.heap TO a b)
    (a1 : s.heap.IsListIter j1 t1 k1) (a2 : s.heap.IsTupleIter j2 t2 k2) (u1 : s.heap.IsList t1 xs) (u2 : s.heap.IsTuple t2 ys) (xk : xs[k1]? = some x) (yk : ys[k2]? = some y)
    (go : ∀ g, IsZip g z TI TO (rawInt s.heap.objs.size) → IsPair g TO x y → g.IsListIter j1 t1 (k1 + 1) → g.IsTupleIter j2 t2 (k2 + 1) → IsPair g s.heap.objs.size x y → g.objs.size = s.heap.objs.size + 1 →
      (∀ c o, c ≠ z → c ≠ TO → c ≠ j1 → c ≠ j2 → s.heap.get? c = some o → g.get? c = some o) → R (.ref s.heap.objs.size) { s with heap := g }) :
    wpAny (model prog w) A (Builtin.«zip.__next__» ⟨[.ref z], []⟩) (fun fin s' => ∃ v, fin = .done (.ret v) ∧ R v s') E s := by
  show wpAny _ _ (field (.ref z) 2 >>= _) _ _ _; refine wpAny_bind (wpAny_field az rfl (x := .bool false) rfl ?_)
  show wpAny _ _ (field (.ref z) 3 >>= _) _ _ _; refine wpAny_bind (wpAny_field az rfl (x := .ref TI) rfl ?_)
  refine wpAny_bind (wpAny_seqItems aI rfl ?_)
  show wpAny _ _ (Builtin.SmallTypes.ownedTupleIsFree (.ref z) >>= _) _ _ _; refine wpAny_bind ?_; unfold Builtin.SmallTypes.ownedTupleIsFree
  refine wpAny_bind (wpAny_field az rfl (x := .none) rfl (wpAny_pure ?_)); simp only [if_true]; refine wpAny_bind (wpAny_rule ?_)
  refine wpAny_bind (wpAny_field az rfl (x := .ref TO) rfl ?_)
  refine wpAny_bind (wpAny_setField_rec az (by simp) fun g1 z1 e1 => ?_)
  replace z1 : IsZip g1 z TI TO .ellipsis := z1
  refine wpAny_bind ?_; simp only [List.zipIdx_cons, List.zipIdx_nil, List.forIn_cons, List.forIn_nil]
  refine wpAny_bind (wpAny_bind (wpAny_onRaise ?_)); show wpAny _ _ (Builtin.SmallTypes.nextOf (.ref j1) >>= _) _ _ _
  refine wpAny_bind (wpAny_nextOf_list_item (a1.extBut e1.extBut D.i1z) (u1.extBut e1.extBut D.l1z) xk fun g2 i2 e2 => wpAny_pure ?_)
  have O2 : IsPair g2 TO a b := e2.extBut _ _ D.TOi1 (e1.extBut _ _ D.TOz aO)
  refine wpAny_bind (wpAny_seqItems O2 rfl ?_); refine wpAny_bind (wpAny_updateSeq_pair O2 fun g3 O3 e3 => ?_)
  replace O3 : IsPair g3 TO x b := O3
  refine wpAny_bind (wpAny_letGo (wpAny_pure ?_)); refine wpAny_bind (wpAny_bind (wpAny_onRaise ?_)); show wpAny _ _ (Builtin.SmallTypes.nextOf (.ref j2) >>= _) _ _ _
  refine wpAny_bind (TZ.nx_item (((a2.extBut e1.extBut D.i2z).extBut e2.extBut D.i12.symm).extBut e3.extBut D.TOi2.symm) (((u2.extBut e1.extBut D.l2z).extBut e2.extBut D.l2i1).extBut e3.extBut D.l2TO) yk fun g4 i4 e4 => wpAny_pure ?_)
  have O4 : IsPair g4 TO x b := e4.extBut _ _ D.TOi2 O3
  refine wpAny_bind (wpAny_seqItems O4 rfl ?_); refine wpAny_bind (wpAny_updateSeq_pair O4 fun g5 O5 e5 => ?_)
  replace O5 : IsPair g5 TO x y := O5
  refine wpAny_bind (wpAny_letGo (wpAny_pure (wpAny_pure ?_))); refine wpAny_bind (wpAny_seqItems O5 rfl ?_); refine wpAny_bind (wpAny_newTuple ?_)
  have sz : g5.objs.size = s.heap.objs.size := by rw [e5.1, e4.1, e3.1, e2.1, e1.1]
  have z5 : IsZip g5 z TI TO .ellipsis := e5.extBut _ _ D.TOz.symm (e4.extBut _ _ D.i2z.symm (e3.extBut _ _ D.TOz.symm (e2.extBut _ _ D.i1z.symm z1)))
  have k5 : ∀ c o, c ≠ z → c ≠ TO → c ≠ j1 → c ≠ j2 → s.heap.get? c = some o → g5.get? c = some o := fun c o c1 c2 c3 c4 e => e5.extBut _ _ c2 (e4.extBut _ _ c4 (e3.extBut _ _ c2 (e2.extBut _ _ c3 (e1.extBut _ _ c1 e))))
  have p1 : g5.IsListIter j1 t1 (k1 + 1) := ((i2.extBut e3.extBut D.TOi1.symm).extBut e4.extBut D.i12).extBut e5.extBut D.TOi1.symm
  have p2 : g5.IsTupleIter j2 t2 (k2 + 1) := i4.extBut e5.extBut D.TOi2.symm
  have lz : z < g5.objs.size := Heap.lt_size z5
  show wpAny _ _ (Builtin.SmallTypes.ownedTupleHandOut (.ref z) (.ref g5.objs.size) >>= _) _ _ _; refine wpAny_bind ?_; unfold Builtin.SmallTypes.ownedTupleHandOut
  have z6 : IsZip (g5.push { cls := .type "tuple", data := .seq #[x, y] }) z TI TO .ellipsis := Heap.get?_push_of_some _ z5
  refine wpAny_bind (wpAny_setField_rec z6 (by simp) fun g7 z7 e7 => ?_)
  replace z7 : IsZip g7 z TI TO (rawInt g5.objs.size) := z7
  refine wpAny_setField_rec z7 (by simp) fun g8 z8 e8 => ?_
  replace z8 : IsZip g8 z TI TO (rawInt g5.objs.size) := z8
  have up : ∀ c o, c ≠ z → g5.get? c = some o → g8.get? c = some o := fun c o c1 e => e8.extBut _ _ c1 (e7.extBut _ _ c1 (Heap.get?_push_of_some _ e))
  have T8 : IsPair g8 g5.objs.size x y := e8.extBut _ _ (Nat.ne_of_gt lz) (e7.extBut _ _ (Nat.ne_of_gt lz) (Heap.get?_push_size _ rfl))
  have s8 : g8.objs.size = g5.objs.size + 1 := by rw [e8.1, e7.1, Heap.size_push]
  rw [sz] at z8 T8 s8
  refine wpAny_pure ⟨_, rfl, ?_⟩
  show R (.ref g5.objs.size) _; rw [sz]
  exact go g8 z8 (up _ _ D.TOz O5) (p1.at fun o e => up _ o D.i1z e) (p2.at fun o e => up _ o D.i2z e) T8 s8 fun c o c1 c2 c3 c4 e => up c o c1 (k5 c o c1 c2 c3 c4 e)
/-- one of them is at its end -/
theorem zp_end {z TI TO j1 j2 t1 t2 : Addr} {k1 k2 : Nat} {xs ys : Array Value} {a b : Value} {R : Fin → Shared → Prop} (calm : A.handled = none) (D : ZipApart z TI TO j1 j2 t1 t2)
    (az : IsZip s.heap z TI TO .none) (aI : IsPair s.heap TI (.ref j1) (.ref j2)) (aO : IsPair s.heap TO a b)
    (a1 : s.heap.IsListIter j1 t1 k1) (a2 : s.heap.IsTupleIter j2 t2 k2) (u1 : s.heap.IsList t1 xs) (u2 : s.heap.IsTuple t2 ys) (stop : xs[k1]? = none ∨ ys[k2]? = none)
    (go : ∀ g e, (∀ c o, c ≠ z → c ≠ TO → c ≠ j1 → c ≠ j2 → s.heap.get? c = some o → g.get? c = some o) → (∃ o, g.get? e = some o ∧ o.cls = .type "StopIteration") → E (.ref e) { s with heap := g }) :
    wpAny (model prog w) A (Builtin.«zip.__next__» ⟨[.ref z], []⟩) R E s := by
  show wpAny _ _ (field (.ref z) 2 >>= _) _ _ _; refine wpAny_bind (wpAny_field az rfl (x := .bool false) rfl ?_)
  show wpAny _ _ (field (.ref z) 3 >>= _) _ _ _; refine wpAny_bind (wpAny_field az rfl (x := .ref TI) rfl ?_)
  refine wpAny_bind (wpAny_seqItems aI rfl ?_)
  show wpAny _ _ (Builtin.SmallTypes.ownedTupleIsFree (.ref z) >>= _) _ _ _; refine wpAny_bind ?_; unfold Builtin.SmallTypes.ownedTupleIsFree
  refine wpAny_bind (wpAny_field az rfl (x := .none) rfl (wpAny_pure ?_)); simp only [if_true]; refine wpAny_bind (wpAny_rule ?_)
  refine wpAny_bind (wpAny_field az rfl (x := .ref TO) rfl ?_)
  refine wpAny_bind (wpAny_setField_rec az (by simp) fun g1 z1 e1 => ?_)
  replace z1 : IsZip g1 z TI TO .ellipsis := z1
  refine wpAny_bind ?_; simp only [List.zipIdx_cons, List.zipIdx_nil, List.forIn_cons, List.forIn_nil]
  refine wpAny_bind (wpAny_bind (wpAny_onRaise ?_)); show wpAny _ _ (Builtin.SmallTypes.nextOf (.ref j1) >>= _) _ _ _
  cases xk : xs[k1]? with
  | none =>
    refine wpAny_bind (wpAny_nextOf_list_end calm (a1.extBut e1.extBut D.i1z) (u1.extBut e1.extBut D.l1z) xk fun g2 e e2 he => ?_)
    obtain ⟨oe, ge, ce⟩ := he
    have z2 : IsZip g2 z TI TO .ellipsis := e2 _ _ D.i1z.symm z1
    have ez : e ≠ z := fun q => by subst q; rw [z2] at ge; cases ge; simp at ce
    exact wpAny_setField_rec z2 (by simp) fun g3 _ e3 => go g3 e (fun c o c1 _ c3 _ q => e3.extBut _ _ c1 (e2 _ _ c3 (e1.extBut _ _ c1 q))) ⟨oe, e3.extBut _ _ ez ge, ce⟩
  | some x =>
    have yk : ys[k2]? = none := stop.resolve_left fun q => by rw [xk] at q; cases q
    refine wpAny_bind (wpAny_nextOf_list_item (a1.extBut e1.extBut D.i1z) (u1.extBut e1.extBut D.l1z) xk fun g2 i2 e2 => wpAny_pure ?_)
    have O2 : IsPair g2 TO a b := e2.extBut _ _ D.TOi1 (e1.extBut _ _ D.TOz aO)
    refine wpAny_bind (wpAny_seqItems O2 rfl ?_); refine wpAny_bind (wpAny_updateSeq_pair O2 fun g3 O3 e3 => ?_)
    refine wpAny_bind (wpAny_letGo (wpAny_pure ?_)); refine wpAny_bind (wpAny_bind (wpAny_onRaise ?_)); show wpAny _ _ (Builtin.SmallTypes.nextOf (.ref j2) >>= _) _ _ _
    refine wpAny_bind (TZ.nx_end calm (((a2.extBut e1.extBut D.i2z).extBut e2.extBut D.i12.symm).extBut e3.extBut D.TOi2.symm) (((u2.extBut e1.extBut D.l2z).extBut e2.extBut D.l2i1).extBut e3.extBut D.l2TO) yk fun g4 e e4 he => ?_)
    obtain ⟨oe, ge, ce⟩ := he
    have z4 : IsZip g4 z TI TO .ellipsis := e4 _ _ D.i2z.symm (e3.extBut _ _ D.TOz.symm (e2.extBut _ _ D.i1z.symm z1))
    have ez : e ≠ z := fun q => by subst q; rw [z4] at ge; cases ge; simp at ce
    exact wpAny_setField_rec z4 (by simp) fun g5 _ e5 => go g5 e (fun c o c1 c2 c3 c4 q => e5.extBut _ _ c1 (e4 _ _ c4 (e3.extBut _ _ c2 (e2.extBut _ _ c3 (e1.extBut _ _ c1 q))))) ⟨oe, e5.extBut _ _ ez ge, ce⟩
theorem py_item {z TI TO j1 j2 t1 t2 : Addr} {k1 k2 : Nat} {xs ys : Array Value} {x y a b : Value} {R : Option Value → Shared → Prop} (D : ZipApart z TI TO j1 j2 t1 t2)
    (az : IsZip s.heap z TI TO .none) (aI : IsPair s.heap TI (.ref j1) (.ref j2)) (aO : IsPair s.heap TO a b)
    (a1 : s.heap.IsListIter j1 t1 k1) (a2 : s.heap.IsTupleIter j2 t2 k2) (u1 : s.heap.IsList t1 xs) (u2 : s.heap.IsTuple t2 ys) (xk : xs[k1]? = some x) (yk : ys[k2]? = some y)
    (go : ∀ g, IsZip g z TI TO (rawInt s.heap.objs.size) → IsPair g TO x y → g.IsListIter j1 t1 (k1 + 1) → g.IsTupleIter j2 t2 (k2 + 1) → IsPair g s.heap.objs.size x y → g.objs.size = s.heap.objs.size + 1 →
      (∀ c o, c ≠ z → c ≠ TO → c ≠ j1 → c ≠ j2 → s.heap.get? c = some o → g.get? c = some o) → R (some (.ref s.heap.objs.size)) { s with heap := g }) :
    wpAny (model prog w) A (pyNext (.ref z)) R E s := by
  have ty : s.TypeIs (.ref z) "zip" := ⟨_, az, rfl⟩
  unfold pyNext
  exact wpAny_bind (wpAny_attempt (wpAny_callSpecial?_slot (name := Str.ofString "__next__") ty F.slot_zip_next (wpAny_call_entry F.slot_zip_next ty F.entry_zip_next
    (zp_item D az aI aO a1 a2 u1 u2 xk yk fun g b1 b2 b3 b4 b5 b6 b7 => wpAny_pure (go g b1 b2 b3 b4 b5 b6 b7)) (F.args_zip_next_1 _))))
theorem py_end {z TI TO j1 j2 t1 t2 : Addr} {k1 k2 : Nat} {xs ys : Array Value} {a b : Value} {R : Option Value → Shared → Prop} (calm : A.handled = none) (D : ZipApart z TI TO j1 j2 t1 t2)
    (az : IsZip s.heap z TI TO .none) (aI : IsPair s.heap TI (.ref j1) (.ref j2)) (aO : IsPair s.heap TO a b)
    (a1 : s.heap.IsListIter j1 t1 k1) (a2 : s.heap.IsTupleIter j2 t2 k2) (u1 : s.heap.IsList t1 xs) (u2 : s.heap.IsTuple t2 ys) (stop : xs[k1]? = none ∨ ys[k2]? = none)
    (go : ∀ g, (∀ c o, c ≠ z → c ≠ TO → c ≠ j1 → c ≠ j2 → s.heap.get? c = some o → g.get? c = some o) → R none { s with heap := g }) : wpAny (model prog w) A (pyNext (.ref z)) R E s := by
  have ty : s.TypeIs (.ref z) "zip" := ⟨_, az, rfl⟩
  unfold pyNext
  refine wpAny_bind (wpAny_attempt (wpAny_callSpecial?_slot (name := Str.ofString "__next__") ty F.slot_zip_next (wpAny_call_entry F.slot_zip_next ty F.entry_zip_next (zp_end calm D az aI aO a1 a2 u1 u2 stop fun g e kp he => ?_) (F.args_zip_next_1 _))))
  obtain ⟨o, ge, ce⟩ := he
  exact wpAny_bind (wpAny_isInstance (T := "StopIteration") (b := true) ⟨o, ge, ce⟩ isSubtype_stop (wpAny_pure (go _ kp)))
end
abbrev zH1 (h : Heap) (a : Addr) : Heap := h.push { cls := .type "list_iterator", data := .fields #[.ref a, .int 0 0] }
abbrev zH2 (h : Heap) (a b : Addr) : Heap := (zH1 h a).push { cls := .type "tuple_iterator", data := .fields #[.ref b, .int 0 0] }
abbrev zH3 (h : Heap) (a b : Addr) : Heap := (zH2 h a b).push { cls := .type "tuple", data := .seq #[.ref h.objs.size, .ref (zH1 h a).objs.size] }
abbrev zH4 (h : Heap) (a b : Addr) : Heap := (zH3 h a b).push { cls := .type "tuple", data := .seq #[.none, .none] }
abbrev zH5 (h : Heap) (a b : Addr) : Heap := (zH4 h a b).push { cls := .type "zip", data := .fields #[.none, .bool false, .bool false, .ref (zH2 h a b).objs.size, .ref (zH3 h a b).objs.size] }
theorem new_meets (t1 t2 : Addr) (xs ys : Array Value) :
    Meets (Builtin.«zip.__new__» ⟨[.type "zip", .ref t1, .ref t2], []⟩) (fun _ R s => s.heap.IsList t1 xs ∧ s.heap.IsTuple t2 ys ∧ R (.ok (.ret (.ref (zH4 s.heap t1 t2).objs.size))) { s with heap := zH5 s.heap t1 t2 }) :=
  .of_wp fun prog w A R s h => by
    obtain ⟨hp, g, d, tk, os⟩ := s; obtain ⟨q1, q2, q⟩ := h
    have sb := sub_zip
    have T1 : Heap.IsList (Shared.heap ⟨hp, g, d, tk, os⟩) t1 xs := q1
    have T2 : Heap.IsTuple (Shared.heap ⟨hp.push { cls := .type "list_iterator", data := .fields #[.ref t1, .int 0 0] }, g, d, tk, os⟩) t2 ys := Heap.IsTuple.push q2 _
    wp_walk using wpAny_pyIter_list T1, wpAny_pyIter_tuple T2
    exact ⟨_, rfl, q⟩
section
variable {prog : Program} {w : World} {A : Around} {E : Value → Shared → Prop} {s : Shared}
theorem call_new {t1 t2 : Addr} {xs ys : Array Value} {R : Value → Shared → Prop} (u1 : s.heap.IsList t1 xs) (u2 : s.heap.IsTuple t2 ys)
    (go : ∀ g, IsZip g (s.heap.objs.size + 4) (s.heap.objs.size + 2) (s.heap.objs.size + 3) .none → IsPair g (s.heap.objs.size + 2) (.ref s.heap.objs.size) (.ref (s.heap.objs.size + 1)) →
      IsPair g (s.heap.objs.size + 3) .none .none → g.IsListIter s.heap.objs.size t1 0 → g.IsTupleIter (s.heap.objs.size + 1) t2 0 → g.objs.size = s.heap.objs.size + 5 →
      (∀ c o, s.heap.get? c = some o → g.get? c = some o) → R (.ref (s.heap.objs.size + 4)) { s with heap := g }) :
    wpAny (model prog w) A (call (.type "zip") [.ref t1, .ref t2]) R E s := by
  refine callType_new F.called_zip (by decide) (F.typeCall_zip_2 _ _) (F.newCall_zip_2 _ _) (fun obj => F.args_object_init_3 obj _ _) F.entry_zip_new (new_meets t1 t2 xs ys) ⟨u1, u2, ?_⟩
  have n1 : (zH1 s.heap t1).objs.size = s.heap.objs.size + 1 := Heap.size_push ..
  have n2 : (zH2 s.heap t1 t2).objs.size = s.heap.objs.size + 2 := by rw [Heap.size_push, n1]
  have n3 : (zH3 s.heap t1 t2).objs.size = s.heap.objs.size + 3 := by rw [Heap.size_push, n2]
  have n4 : (zH4 s.heap t1 t2).objs.size = s.heap.objs.size + 4 := by rw [Heap.size_push, n3]
  have n5 : (zH5 s.heap t1 t2).objs.size = s.heap.objs.size + 5 := by rw [Heap.size_push, n4]
  have o5 : (zH5 s.heap t1 t2).get? (zH4 s.heap t1 t2).objs.size = some _ := Heap.get?_push_size _ rfl
  have o4 : (zH5 s.heap t1 t2).get? (zH3 s.heap t1 t2).objs.size = some _ := Heap.get?_push_of_some _ (Heap.get?_push_size _ rfl)
  have o3 : (zH5 s.heap t1 t2).get? (zH2 s.heap t1 t2).objs.size = some _ := Heap.get?_push_of_some _ (Heap.get?_push_of_some _ (Heap.get?_push_size _ rfl))
  have o2 : (zH5 s.heap t1 t2).get? (zH1 s.heap t1).objs.size = some _ := Heap.get?_push_of_some _ (Heap.get?_push_of_some _ (Heap.get?_push_of_some _ (Heap.get?_push_size _ rfl)))
  have o1 : (zH5 s.heap t1 t2).get? s.heap.objs.size = some _ := Heap.get?_push_of_some _ (Heap.get?_push_of_some _ (Heap.get?_push_of_some _ (Heap.get?_push_of_some _ (Heap.get?_push_size _ rfl))))
  show _ ∧ _
  rw [n2, n3, n4] at o5; rw [n1, n2] at o3; rw [n3] at o4; rw [n1] at o2; rw [n4]
  exact ⟨⟨_, o5, rfl⟩, go _ o5 o3 o4 ⟨_, o1, rfl, rfl⟩ ⟨_, o2, rfl, rfl⟩ n5 fun c o q => Heap.get?_push_of_some _ (Heap.get?_push_of_some _ (Heap.get?_push_of_some _ (Heap.get?_push_of_some _ (Heap.get?_push_of_some _ q))))⟩
end
end LZ

set_option linter.all false
namespace TZ
open PySem
open AutoSeq1 (wpAny_loadPart')
theorem ext_meets (l : Addr) (items : Array Value) (n : Nat) (b : Addr) (od : Option Addr) (sl : Array (Option Value)) (its2 : Array Value) (n2 : Nat) (few : ¬ (!items.isEmpty && Builtin.List.listTooLong (items.size + its2.size)) = true) (z1 : items.size ≤ sizeLine) (z2 : items.size + its2.size ≤ sizeLine + 1) :
    Meets (Builtin.«list.extend» ⟨[.ref l, .ref b], []⟩) (fun _ R s => s.heap.get? l = some { cls := .type "list", dict := none, data := .seq items n, slots := #[] } ∧ s.heap.get? b = some { cls := .type "tuple", dict := od, data := .seq its2 n2, slots := sl } ∧ R (.ok (.ret Value.none)) { s with heap := s.heap.update l (Obj.mapSeq fun x => x ++ its2), toks := s.toks }) :=
  .of_wp fun prog w A R s h => by
    obtain ⟨hp, g, d, tk, os⟩ := s; obtain ⟨q1, q2, q⟩ := h
    have hT : Shared.TypeIs ⟨hp, g, d, tk, os⟩ (.ref b) "tuple" := ⟨_, q2, rfl⟩
    have zz : (items ++ its2).size ≤ sizeLine + 1 := by rw [Array.size_append]; exact z2
    have f2 := AutoSeq1.sub_tuple_tuple; have f3 := AutoSeq1.sub_list_list; have f4 := AutoSeq1.sub_tuple_list; have f5 := AutoSeq1.sub_list_tuple
    wp_walk using (wpAny_updateSeq q1 rfl (hz := z1) (_hz' := zz)), wpAny_loadPart' q1, wpAny_loadPart' q2, wpAny_typeOf hT
    exact ⟨_, rfl, q⟩
end TZ

set_option Elab.async false
set_option linter.all false
set_option maxRecDepth 100000
namespace L2
open PySem PySem.Spec PyProof.Rows
/-! ### a def that is called, a class that is made -/
structure Callee (P : Program) (w : World) (K : PySem.W.Frag) (mg : Str → Option Value) (base : Heap) (k : Nat) (x : Str) (ps : List Str) (sp : Sp) : Prop where
  ex : ∃ f fd, FnOk P w K mg base CX0 k f fd ps sp ∧ mg x = some (.ref f) ∧ PySem.W.keepIn K (.ref f) = true ∧ Binds K fd ps []
structure Maker (P : Program) (w : World) (K : PySem.W.Frag) (mg : Str → Option Value) (base : Heap) (k : Nat) (x : Str) (C : Addr) (ps : List Str) (sp : Sp) : Prop where
  ex : ∃ f fd, Mk K C f ∧ FnOk P w K mg base CX0 k f fd ps sp ∧ mg x = some (.ref C) ∧ Binds K fd ps []
/-- a name of the top that holds a value -/
def GlV (mg : Str → Option Value) (x : Str) (v : V) : Prop := ∃ u, mg x = some u ∧ RelV v u
section
variable {X : Cx} {k : Nat} {C : Addr} {ps : List Str} {sp : Sp} {x : Str} {p pos : Pos} {e : Expr} {es : List Expr} {t : TA} {v : V}
theorem pe_callF (c : Callee X.prog X.w X.K X.mg X.base k x ps sp) (hr : Room k X.A) (hg : Gl X x) (ha : PA X (e :: es) t) (hdb : (x == ("__debug__" : Str)) = false := by decide)
    (he : starEach (e :: es) X.env = (false, eval e X.env) :: starEach es X.env := by rfl) (hpl : (backTo pos (starEach es X.env)).any (·.1) = false := by rfl) : PE X (.Call (.Name x p) (e :: es) [] pos) (tCall sp [] E0 t) := by
  obtain ⟨f, fd, F, hm, hk, hb⟩ := c.ex
  exact pe_call F hr hg hm hk hb .nil pass0 ha hdb he hpl
theorem pe_makeF (c : Maker X.prog X.w X.K X.mg X.base k x C ps sp) (hr : Room (k + 1) X.A) (hg : Gl X x) (ha : PA X (e :: es) t) (hdb : (x == ("__debug__" : Str)) = false := by decide)
    (he : starEach (e :: es) X.env = (false, eval e X.env) :: starEach es X.env := by rfl) (hpl : (backTo pos (starEach es X.env)).any (·.1) = false := by rfl) : PE X (.Call (.Name x p) (e :: es) [] pos) (tMake C sp [] E0 t) := by
  obtain ⟨f, fd, M, F, hm, hb⟩ := c.ex
  exact pe_make M F hr hg hm hb .nil pass0 ha hdb he hpl
theorem pe_gl (hg : Gl X x) (h : GlV X.mg x v) (hd : (x == ("__debug__" : Str)) = false := by decide) : PE X (.Name x pos) (tC v) := by
  obtain ⟨u, hm, r⟩ := h
  exact pe_glob hg hm r hd
theorem boot_tuple' : bootBuiltins "tuple" = some (.type "tuple") := by decide +kernel
theorem boot_list' : bootBuiltins "list" = some (.type "list") := by decide +kernel
theorem boot_max' : bootBuiltins "max" = some (.builtin "max") := by decide +kernel
theorem boot_min' : bootBuiltins "min" = some (.builtin "min") := by decide +kernel
theorem boot_sum' : bootBuiltins "sum" = some (.builtin "sum") := by decide +kernel
theorem boot_abs' : bootBuiltins "abs" = some (.builtin "abs") := by decide +kernel
/-! ### // by a great number -/
def CDivB (i j : Int) : Prop := 0 < j ∧ j.natAbs.log2 < 9000
theorem op_fdivB : OpR X (binaryOp .FloorDiv) (rI CDivB fun i j => .int (i / j)) := opI fun i j _ _ _ _ _ hc q => by
  have h1 : (0 : Int) < j := hc.1
  exact floordiv_int (by omega) (by rw [Int.fdiv_eq_ediv_of_nonneg i (by omega)]; exact q) (.inl (PyProof.noPylong_of_log2 hc.2))
/-! ### insert, extend by a tuple -/
def rInsert : V → List V → Hp → VK → Prop := fun x vs H Q => ∃ (l : Addr) (xs : List V) (i : Nat) (y : V), x = .ref l ∧ vs = [.int (i : Int), y] ∧ H l = some (.lst xs) ∧ i ≤ xs.length ∧ xs.length < sizeLine ∧ Q .non (upd H l (.lst (xs.take i ++ y :: xs.drop i)))
theorem Vals.dropN : ∀ {xs : List V} {us : List Value} (n : Nat), Vals xs us → Vals (xs.drop n) (us.drop n)
  | _, _, 0, r => r
  | _, _, _ + 1, .nil => .nil
  | _, _, n + 1, .cons _ t => Vals.dropN n t
theorem mt_insert : MtM X "list.insert" rInsert := by
  intro pins s σ H x vs v us Q I rx rv h
  obtain ⟨l, xs, i, y, rfl, rfl, hH, hi, hz, q⟩ := h
  cases rx
  obtain ⟨u, w', rfl, ru, rw'⟩ := rv.two
  obtain ⟨t, rfl⟩ := ru
  obtain ⟨z, its, n, r, hl, e⟩ := I.lstM hH
  have hsl : (sizeLine : Nat) = 16777216 := sizeLine_eq
  have hfit : ¬ (!Builtin.List.listFitsIndex (i : Int)) = true := by
    rw [fitsIndex_both (by omega) (by omega)]
    exact Bool.false_ne_true
  have hz2 : its.toArray.size ≤ sizeLine := by rw [List.size_toArray]; omega
  have key : ∀ k : Int, k = (i : Int) → (fun xs : Array Value => have k := if k < 0 then (k + ((xs.size : Nat) : Int)).toNat else min k.toNat xs.size; (xs.extract 0 k).push w' ++ xs.extract k) its.toArray = (its.take i ++ w' :: its.drop i).toArray := fun k hk => by
    subst hk
    show (its.toArray.extract 0 (if (i : Int) < 0 then _ else min (i : Int).toNat its.toArray.size)).push w' ++ its.toArray.extract (if (i : Int) < 0 then _ else min (i : Int).toNat its.toArray.size) = _
    rw [if_neg (show ¬ ((i : Int) < 0) by omega), Int.toNat_natCast, List.size_toArray, Nat.min_eq_left (by omega)]
    apply Array.toList_inj.mp
    simp [List.take_of_length_le]
  generalize (i : Int) = k at hfit key
  refine call_meets F.slot_list_insert ⟨_, e, rfl⟩ F.entry_list_insert (F.args_list_insert_3 _ _ _) (AutoSeq1.list_insert_list_int_val_1 l its.toArray n k t w' hfit hz2) ⟨e, ?_⟩
  refine ⟨.non, _, I.lset (its' := its.take i ++ w' :: its.drop i) hH e (key k rfl) ((r.take i).append (.cons rw' (r.dropN i))) ?_, rfl, q⟩
  rw [List.length_append, List.length_cons, List.length_take, List.length_drop]
  omega
def rExtendT (K : PySem.W.Frag) : V → List V → Hp → VK → Prop := fun x vs H Q => ∃ l b xs zs, x = .ref l ∧ vs = [.ref b] ∧ H l = some (.lst xs) ∧ SqT K H b zs ∧ xs.length + zs.length ≤ sizeLine ∧ Q .non (upd H l (.lst (xs ++ zs)))
theorem mt_extendT : MtM X "list.extend" (rExtendT X.K) := by
  intro pins s σ H x vs v us Q I rx rv h
  obtain ⟨l, b, xs, zs, rfl, rfl, hH, hB, hz, q⟩ := h
  cases rx
  obtain ⟨u, rfl, ru⟩ := rv.one
  cases ru
  obtain ⟨z, its, n, r, hl, e⟩ := I.lstM hH
  obtain ⟨its2, r2, ⟨⟨oc, od, odt, osl⟩, e2, hc, n2, hd⟩, _⟩ := I.tuple hB
  have hc' : oc = .type "tuple" := hc
  have hd' : odt = .seq its2.toArray n2 := hd
  subst hc' hd'
  have hl2 := r2.length
  have hsz : its.toArray.size + its2.toArray.size ≤ sizeLine := by rw [List.size_toArray, List.size_toArray]; omega
  have hlong : ¬ (!its.toArray.isEmpty && Builtin.List.listTooLong (its.toArray.size + its2.toArray.size)) = true := by
    rw [notLongL hsz, Bool.and_false]
    exact Bool.false_ne_true
  refine call_meets F.slot_list_extend ⟨_, e, rfl⟩ F.entry_list_extend (F.args_list_extend_2 _ _) (TZ.ext_meets l its.toArray n b od osl its2.toArray n2 hlong (by rw [List.size_toArray]; omega) (by omega)) ⟨e, e2, ?_⟩
  refine ⟨.non, _, I.lset (its' := its ++ its2) hH e (by simp) (r.append r2) ?_, rfl, q⟩
  rw [List.length_append]
  omega
end
/-! ### zip of two tuples -/
def ItzT (K : PySem.W.Frag) (a b : Addr) : It :=
  ⟨fun i H => ∃ (xs ys : List V) (x y : V), SqT K H a xs ∧ SqT K H b ys ∧ xs[i]? = some x ∧ ys[i]? = some y,
    fun i H v H' => ∃ q x y, v = .ref q ∧ H q = none ∧ H' = upd H q (.tup [x, y]) ∧ (∀ xs, SqT K H a xs → xs[i]? = some x) ∧ ∀ ys, SqT K H b ys → ys[i]? = some y,
    fun i H => ∃ xs ys : List V, SqT K H a xs ∧ SqT K H b ys ∧ (xs.length ≤ i ∨ ys.length ≤ i)⟩
theorem turn_zipT {P : Program} {w : World} {K : PySem.W.Frag} {elts : List Expr} {kk : Nat} {tpos : Pos} {a b z TI TO i1 i2 : Addr} (D : ZipApart z TI TO i1 i2 a b) :
    Turn P w K (.Tuple elts kk tpos) (ItzT K a b) [z, TI, TO, i1, i2] z (fun i h => IsZip h z TI TO .none ∧ IsPair h TI (.ref i1) (.ref i2) ∧ (∃ x y, IsPair h TO x y) ∧ h.IsTupleIter i1 a i ∧ h.IsTupleIter i2 b i) where
  mem := by simp
  obj := fun i h st c hc => by
    obtain ⟨hz, hTI, ⟨x, y, hTO⟩, ⟨o1, e1, _, d1⟩, ⟨o2, e2, _, d2⟩⟩ := st
    have e' : c = z ∨ c = TI ∨ c = TO ∨ c = i1 ∨ c = i2 := by simpa using hc
    rcases e' with q | q | q | q | q
    · rw [q]; exact ⟨_, hz, fun v q => nomatch q⟩
    · rw [q]; exact ⟨_, hTI, fun v q => nomatch q⟩
    · rw [q]; exact ⟨_, hTO, fun v q => nomatch q⟩
    · rw [q]; exact ⟨o1, e1, fun v q => by rw [d1] at q; cases q⟩
    · rw [q]; exact ⟨o2, e2, fun v q => by rw [d2] at q; cases q⟩
  keep := fun i h h' st k => by
    obtain ⟨hz, hTI, ⟨x, y, hTO⟩, h1, h2⟩ := st
    exact ⟨k z (by simp) _ hz, k TI (by simp) _ hTI, ⟨x, y, k TO (by simp) _ hTO⟩, h1.at fun o q => k i1 (by simp) o q, h2.at fun o q => k i2 (by simp) o q⟩
  item := by
    intro X hP hw hK hc i pins s σ H E I hf st hg
    subst hP hw hK
    obtain ⟨hz, hTI, ⟨x0, y0, hTO⟩, h1, h2⟩ := st
    obtain ⟨xs, ys, x, y, hqx, hqy, hx, hy⟩ := hg
    obtain ⟨its, rv, p, _⟩ := I.tuple hqx
    obtain ⟨its2, rv2, p2, _⟩ := I.tuple hqy
    obtain ⟨u, hu, ru⟩ := rv.get hx
    obtain ⟨u2, hu2, ru2⟩ := rv2.get hy
    have hzl : z < s.heap.objs.size := Heap.lt_size hz
    refine TZ.py_item D hz hTI hTO h1 h2 (show s.heap.IsTuple a its.toArray from p) (show s.heap.IsTuple b its2.toArray from p2) (x := u) (y := u2) (by simpa using hu) (by simpa using hu2) fun h' z' TO' h1' h2' hT hsz hk => ?_
    refine ⟨_, rfl, wpAny_letOwnedTupleGo_zip (s := { s with heap := h' }) z' fun h'' z'' sb => ?_⟩
    have hT2 : h''.get? s.heap.objs.size = some { cls := .type "tuple", data := .seq #[u, u2] } := (sb.2 _ (Nat.ne_of_gt hzl)).trans hT
    have new : ObjOk X.prog X.w (upd H s.heap.objs.size (.tup [x, y])) h'' s.heap.objs.size (.tup [x, y]) :=
      ⟨by show 2 ≤ sizeLine; decide, [u, u2], .cons ru (.cons ru2 .nil), ⟨_, hT2, rfl, _, rfl⟩⟩
    have I1 : Inv X pins σ (upd H s.heap.objs.size (.tup [x, y])) { s with heap := h'' } :=
      I.turnedNew (t' := s.toks) (ch := [z, TI, TO, i1, i2]) (fun c o hb q => (sb.2 c (fun q' => hb (by simp [q']))).trans (hk c o (fun q' => hb (by simp [q'])) (fun q' => hb (by simp [q'])) (fun q' => hb (by simp [q'])) (fun q' => hb (by simp [q'])) q)) hf (Nat.le_refl _) new
    refine ⟨.ref s.heap.objs.size, _, I1, rfl, ⟨_, x, y, rfl, I.hok.fresh (Nat.le_refl _), rfl, fun l hl => by rw [I.tuple_inj hl hqx]; exact hx, fun l hl => by rw [I.tuple_inj hl hqy]; exact hy⟩, ⟨z'', ?_, ⟨u, u2, ?_⟩, ?_, ?_⟩, fun c hcm => ?_⟩
    · exact (sb.2 _ D.TIz).trans (hk _ _ D.TIz D.TITO D.TIi1 D.TIi2 hTI)
    · exact (sb.2 _ D.TOz).trans TO'
    · exact h1'.at fun o q => (sb.2 _ D.i1z).trans q
    · exact h2'.at fun o q => (sb.2 _ D.i2z).trans q
    · have hlt : c < s.heap.objs.size := by
        have e' : c = z ∨ c = TI ∨ c = TO ∨ c = i1 ∨ c = i2 := by simpa using hcm
        rcases e' with q | q | q | q | q
        · rw [q]; exact hzl
        · rw [q]; exact Heap.lt_size hTI
        · rw [q]; exact Heap.lt_size hTO
        · rw [q]; obtain ⟨_, e1, _⟩ := h1; exact Heap.lt_size e1
        · rw [q]; obtain ⟨_, e2, _⟩ := h2; exact Heap.lt_size e2
      rw [upd_ne (Nat.ne_of_lt hlt)]
      exact (hf c hcm).1
  done := by
    intro X hP hw hK hc i pins s σ H E I hf st hg
    subst hP hw hK
    obtain ⟨hz, hTI, ⟨x0, y0, hTO⟩, h1, h2⟩ := st
    obtain ⟨xs, ys, hqx, hqy, hend⟩ := hg
    obtain ⟨its, rv, p, _⟩ := I.tuple hqx
    obtain ⟨its2, rv2, p2, _⟩ := I.tuple hqy
    have l1 := rv.length
    have l2 := rv2.length
    have he : its.toArray[i]? = none ∨ its2.toArray[i]? = none := by
      rcases hend with q | q
      · exact .inl (by simp; omega)
      · exact .inr (by simp; omega)
    exact TZ.py_end (I.ok.hd hc) D hz hTI hTO h1 h2 (show s.heap.IsTuple a its.toArray from p) (show s.heap.IsTuple b its2.toArray from p2) he fun h' hk => ⟨rfl, I.turnedL (t' := s.toks) (ch := [z, TI, TO, i1, i2]) (fun c o hb q =>
      hk c o (fun q' => hb (by simp [q'])) (fun q' => hb (by simp [q'])) (fun q' => hb (by simp [q'])) (fun q' => hb (by simp [q'])) q) hf⟩
  self := fun A i s Q E st h => wpAny_pyIter_zip st.1 h
def iZipT (K : PySem.W.Frag) (ta : TA) : TI := fun σ H R => ta σ H fun vs H1 => ∃ a b xs ys, vs = [.ref a, .ref b] ∧ SqT K H1 a xs ∧ SqT K H1 b ys ∧ R (ItzT K a b) H1
theorem pi_zipT {X : Cx} {e e2 : Expr} {ta : TA} {p pos tpos : Pos} {elts : List Expr} {kk : Nat} (hg : Gl X "zip") (hm : X.mg "zip" = none) (ha : PA X [e, e2] ta)
    (hs : starEach [e, e2] X.env = (false, eval e X.env) :: starEach [e2] X.env := by rfl) (hpl : (backTo pos (starEach [e2] X.env)).any (·.1) = false := by rfl) :
    PI X (.Tuple elts kk tpos) (.Call (.Name "zip" p) [e, e2] [] pos) (iZipT X.K ta) := by
  intro pins s σ H R I h
  refine Call_ (ld_blt I hg hm boot_zip5 (PyProof.Rows.callWith_type1 (thn (ha pos pins s σ H _ I h) fun us s1 ⟨vs, H1, I1, r1, q1⟩ => ?_) hs hpl))
  obtain ⟨a, b, xs, ys, ex, hqx, hqy, q⟩ := q1
  subst ex
  cases r1 with
  | cons r rr =>
    cases rr with
    | cons r' rr =>
      cases rr
      cases r
      cases r'
      obtain ⟨its, rv, p1, _⟩ := I1.tuple hqx
      obtain ⟨its2, rv2, p2, _⟩ := I1.tuple hqy
      have la : a < s1.heap.objs.size := p1.lt
      have lb : b < s1.heap.objs.size := p2.lt
      refine TZ.call_new (show s1.heap.IsTuple a its.toArray from p1) (show s1.heap.IsTuple b its2.toArray from p2) fun h' hz hTI hTO h1 h2 hsz hk => wpAny_pyIter_zip hz ?_
      have I2 : Inv X pins σ H1 { s1 with heap := h' } := I1.kept (t' := s1.toks) hk
      refine ⟨s1.heap.objs.size + 4, [s1.heap.objs.size + 4, s1.heap.objs.size + 2, s1.heap.objs.size + 3, s1.heap.objs.size, s1.heap.objs.size + 1], _, _, H1, rfl, I2, turn_zipT (PySem.W.ktu_apart s1.heap.objs.size a b la lb), ⟨hz, hTI, ⟨_, _, hTO⟩, h1, h2⟩, fun c hcm => ?_, q⟩
      have e' : c = s1.heap.objs.size + 4 ∨ c = s1.heap.objs.size + 2 ∨ c = s1.heap.objs.size + 3 ∨ c = s1.heap.objs.size ∨ c = s1.heap.objs.size + 1 := by simpa using hcm
      have hle : s1.heap.objs.size ≤ c := by
        rcases e' with z | z | z | z | z
        · rw [z]; exact Nat.le_add_right _ _
        · rw [z]; exact Nat.le_add_right _ _
        · rw [z]; exact Nat.le_add_right _ _
        · rw [z]; exact Nat.le_refl _
        · rw [z]; exact Nat.le_add_right _ _
      exact I1.fpOk hle (I1.hok.fresh hle)
/-- two tuples side by side, which the body leaves as they are -/
theorem for_zipT {K : PySem.W.Frag} {a b : Addr} {xs ys : List V} {g : TG} {tb : TS} {D : Ends} {σ : St} {H : Hp} (Pv : Nat → St → Hp → Prop) (h0 : Pv 0 σ H) (hlen : xs.length = ys.length) (hl : ∀ i σ H, i ≤ xs.length → Pv i σ H → SqT K H a xs ∧ SqT K H b ys)
    (hs : ∀ i x y σ H q, xs[i]? = some x → ys[i]? = some y → Pv i σ H → H q = none → g (.ref q) σ (upd H q (.tup [x, y])) fun σ2 H2 => tb { D with nx := Pv (i + 1), ct := Pv (i + 1), bk := D.nx } σ2 H2) (hd : ∀ σ H, Pv xs.length σ H → D.nx σ H) :
    ∃ W : Nat → Nat → St → Hp → Prop, (∃ m, W 0 m σ H) ∧ ∀ i m σ H, W i m σ H →
      ((ItzT K a b).stop i H ∧ D.nx σ H) ∨ ((ItzT K a b).go i H ∧ ∃ N : St → Hp → Prop, (∀ σ' H', N σ' H' → ∃ m', m' < m ∧ W (i + 1) m' σ' H') ∧ ∀ x H', (ItzT K a b).yld i H x H' → g x σ H' fun σ2 H2 => tb { D with nx := N, ct := N, bk := D.nx } σ2 H2) := by
  refine ⟨fun i m σ H => m = xs.length - i ∧ i ≤ xs.length ∧ Pv i σ H, ⟨xs.length, by simp, Nat.zero_le _, h0⟩, ?_⟩
  rintro i m σ H ⟨rfl, hi, p⟩
  obtain ⟨q1, q2⟩ := hl i σ H hi p
  by_cases hlt : i < xs.length
  · refine .inr ⟨⟨xs, ys, xs[i], ys[i], q1, q2, by simp [hlt], by simp [← hlen, hlt]⟩, Pv (i + 1), fun σ' H' p' => ⟨xs.length - (i + 1), by omega, rfl, hlt, p'⟩, fun x H' y => ?_⟩
    obtain ⟨q, x1, y1, rfl, hq, rfl, hx, hy⟩ := y
    exact hs i x1 y1 σ H q (hx xs q1) (hy ys q2) p hq
  · have e : i = xs.length := by omega
    subst e
    exact .inl ⟨⟨xs, ys, q1, q2, .inl (Nat.le_refl _)⟩, hd σ H p⟩
/-- a comprehension over a range with a step -/
theorem lc_rangeC {lo c : Int} {n : Nat} {g : TG} {tt : TT} {te : TE} {vs : List Nat} {σ : St} {H1 : Hp} {D : Addr} {Qd : Hp → Prop} (Pv : Nat → Hp → Prop) (h0 : Pv 0 (upd H1 D (.lst [])))
    (hs : ∀ i H, i < n → Pv i H → g (.int (lo + (i : Nat) * c)) (wipe σ vs) H fun σ2 H2 => wipe σ2 vs = wipe σ vs ∧ tt σ2 H2 fun b H3 =>
      if b = true then te σ2 H3 fun y H4 => ∃ acc, H4 D = some (.lst acc) ∧ acc.length < sizeLine ∧ Pv (i + 1) (upd H4 D (.lst (acc ++ [y]))) else Pv (i + 1) H3) (hd : ∀ H, Pv n H → Qd H) :
    ∃ W : Nat → Nat → Hp → Prop, (∃ m, W 0 m (upd H1 D (.lst []))) ∧ ∀ i m H, W i m H →
      ((Itc lo c n).stop i H ∧ Qd H) ∨ ((Itc lo c n).go i H ∧ ∃ Nx : Hp → Prop, (∀ H', Nx H' → ∃ m', m' < m ∧ W (i + 1) m' H') ∧ ∀ x H', (Itc lo c n).yld i H x H' → g x (wipe σ vs) H' fun σ2 H2 => wipe σ2 vs = wipe σ vs ∧ tt σ2 H2 fun b H3 =>
        if b = true then te σ2 H3 fun y H4 => ∃ acc, H4 D = some (.lst acc) ∧ acc.length < sizeLine ∧ Nx (upd H4 D (.lst (acc ++ [y]))) else Nx H3) := by
  refine ⟨fun i m H => m = n - i ∧ i ≤ n ∧ Pv i H, ⟨n, by simp, Nat.zero_le _, h0⟩, ?_⟩
  rintro i m H ⟨rfl, hi, p⟩
  by_cases hlt : i < n
  · refine .inr ⟨hlt, Pv (i + 1), fun H' p' => ⟨n - (i + 1), by omega, rfl, hlt, p'⟩, fun x H' y => ?_⟩
    obtain ⟨e, y⟩ := y
    subst e y
    exact hs i _ hlt p
  · have e : i = n := by omega
    subst e
    exact .inl ⟨Nat.le_refl _, hd H p⟩
end L2

set_option Elab.async false
set_option linter.all false
set_option maxRecDepth 100000
namespace L2
open PySem PySem.Spec PyProof.Rows
/-! ### zip of a list and a tuple -/
def ItzLT (K : PySem.W.Frag) (a b : Addr) : It :=
  ⟨fun i H => ∃ (xs ys : List V) (x y : V), SqL K H a xs ∧ SqT K H b ys ∧ xs[i]? = some x ∧ ys[i]? = some y,
    fun i H v H' => ∃ q x y, v = .ref q ∧ H q = none ∧ H' = upd H q (.tup [x, y]) ∧ (∀ xs, SqL K H a xs → xs[i]? = some x) ∧ ∀ ys, SqT K H b ys → ys[i]? = some y,
    fun i H => ∃ xs ys : List V, SqL K H a xs ∧ SqT K H b ys ∧ (xs.length ≤ i ∨ ys.length ≤ i)⟩
theorem turn_zipLT {P : Program} {w : World} {K : PySem.W.Frag} {elts : List Expr} {kk : Nat} {tpos : Pos} {a b z TI TO i1 i2 : Addr} (D : ZipApart z TI TO i1 i2 a b) :
    Turn P w K (.Tuple elts kk tpos) (ItzLT K a b) [z, TI, TO, i1, i2] z (fun i h => IsZip h z TI TO .none ∧ IsPair h TI (.ref i1) (.ref i2) ∧ (∃ x y, IsPair h TO x y) ∧ h.IsListIter i1 a i ∧ h.IsTupleIter i2 b i) where
  mem := by simp
  obj := fun i h st c hc => by
    obtain ⟨hz, hTI, ⟨x, y, hTO⟩, ⟨o1, e1, _, d1⟩, ⟨o2, e2, _, d2⟩⟩ := st
    have e' : c = z ∨ c = TI ∨ c = TO ∨ c = i1 ∨ c = i2 := by simpa using hc
    rcases e' with q | q | q | q | q
    · rw [q]; exact ⟨_, hz, fun v q => nomatch q⟩
    · rw [q]; exact ⟨_, hTI, fun v q => nomatch q⟩
    · rw [q]; exact ⟨_, hTO, fun v q => nomatch q⟩
    · rw [q]; exact ⟨o1, e1, fun v q => by rw [d1] at q; cases q⟩
    · rw [q]; exact ⟨o2, e2, fun v q => by rw [d2] at q; cases q⟩
  keep := fun i h h' st k => by
    obtain ⟨hz, hTI, ⟨x, y, hTO⟩, h1, h2⟩ := st
    exact ⟨k z (by simp) _ hz, k TI (by simp) _ hTI, ⟨x, y, k TO (by simp) _ hTO⟩, h1.at fun o q => k i1 (by simp) o q, h2.at fun o q => k i2 (by simp) o q⟩
  item := by
    intro X hP hw hK hc i pins s σ H E I hf st hg
    subst hP hw hK
    obtain ⟨hz, hTI, ⟨x0, y0, hTO⟩, h1, h2⟩ := st
    obtain ⟨xs, ys, x, y, hqx, hqy, hx, hy⟩ := hg
    obtain ⟨its, rv, p, _⟩ := I.list hqx
    obtain ⟨its2, rv2, p2, _⟩ := I.tuple hqy
    obtain ⟨u, hu, ru⟩ := rv.get hx
    obtain ⟨u2, hu2, ru2⟩ := rv2.get hy
    have hzl : z < s.heap.objs.size := Heap.lt_size hz
    refine LZ.py_item D hz hTI hTO h1 h2 p.isList (show s.heap.IsTuple b its2.toArray from p2) (x := u) (y := u2) (by simpa using hu) (by simpa using hu2) fun h' z' TO' h1' h2' hT hsz hk => ?_
    refine ⟨_, rfl, wpAny_letOwnedTupleGo_zip (s := { s with heap := h' }) z' fun h'' z'' sb => ?_⟩
    have hT2 : h''.get? s.heap.objs.size = some { cls := .type "tuple", data := .seq #[u, u2] } := (sb.2 _ (Nat.ne_of_gt hzl)).trans hT
    have new : ObjOk X.prog X.w (upd H s.heap.objs.size (.tup [x, y])) h'' s.heap.objs.size (.tup [x, y]) :=
      ⟨by show 2 ≤ sizeLine; decide, [u, u2], .cons ru (.cons ru2 .nil), ⟨_, hT2, rfl, _, rfl⟩⟩
    have I1 : Inv X pins σ (upd H s.heap.objs.size (.tup [x, y])) { s with heap := h'' } :=
      I.turnedNew (t' := s.toks) (ch := [z, TI, TO, i1, i2]) (fun c o hb q => (sb.2 c (fun q' => hb (by simp [q']))).trans (hk c o (fun q' => hb (by simp [q'])) (fun q' => hb (by simp [q'])) (fun q' => hb (by simp [q'])) (fun q' => hb (by simp [q'])) q)) hf (Nat.le_refl _) new
    refine ⟨.ref s.heap.objs.size, _, I1, rfl, ⟨_, x, y, rfl, I.hok.fresh (Nat.le_refl _), rfl, fun l hl => by rw [I.list_inj hl hqx]; exact hx, fun l hl => by rw [I.tuple_inj hl hqy]; exact hy⟩, ⟨z'', ?_, ⟨u, u2, ?_⟩, ?_, ?_⟩, fun c hcm => ?_⟩
    · exact (sb.2 _ D.TIz).trans (hk _ _ D.TIz D.TITO D.TIi1 D.TIi2 hTI)
    · exact (sb.2 _ D.TOz).trans TO'
    · exact h1'.at fun o q => (sb.2 _ D.i1z).trans q
    · exact h2'.at fun o q => (sb.2 _ D.i2z).trans q
    · have hlt : c < s.heap.objs.size := by
        have e' : c = z ∨ c = TI ∨ c = TO ∨ c = i1 ∨ c = i2 := by simpa using hcm
        rcases e' with q | q | q | q | q
        · rw [q]; exact hzl
        · rw [q]; exact Heap.lt_size hTI
        · rw [q]; exact Heap.lt_size hTO
        · rw [q]; obtain ⟨_, e1, _⟩ := h1; exact Heap.lt_size e1
        · rw [q]; obtain ⟨_, e2, _⟩ := h2; exact Heap.lt_size e2
      rw [upd_ne (Nat.ne_of_lt hlt)]
      exact (hf c hcm).1
  done := by
    intro X hP hw hK hc i pins s σ H E I hf st hg
    subst hP hw hK
    obtain ⟨hz, hTI, ⟨x0, y0, hTO⟩, h1, h2⟩ := st
    obtain ⟨xs, ys, hqx, hqy, hend⟩ := hg
    obtain ⟨its, rv, p, _⟩ := I.list hqx
    obtain ⟨its2, rv2, p2, _⟩ := I.tuple hqy
    have l1 := rv.length
    have l2 := rv2.length
    have he : its.toArray[i]? = none ∨ its2.toArray[i]? = none := by
      rcases hend with q | q
      · exact .inl (by simp; omega)
      · exact .inr (by simp; omega)
    exact LZ.py_end (I.ok.hd hc) D hz hTI hTO h1 h2 p.isList (show s.heap.IsTuple b its2.toArray from p2) he fun h' hk => ⟨rfl, I.turnedL (t' := s.toks) (ch := [z, TI, TO, i1, i2]) (fun c o hb q =>
      hk c o (fun q' => hb (by simp [q'])) (fun q' => hb (by simp [q'])) (fun q' => hb (by simp [q'])) (fun q' => hb (by simp [q'])) q) hf⟩
  self := fun A i s Q E st h => wpAny_pyIter_zip st.1 h
def iZipLT (K : PySem.W.Frag) (ta : TA) : TI := fun σ H R => ta σ H fun vs H1 => ∃ a b xs ys, vs = [.ref a, .ref b] ∧ SqL K H1 a xs ∧ SqT K H1 b ys ∧ R (ItzLT K a b) H1
theorem pi_zipLT {X : Cx} {e e2 : Expr} {ta : TA} {p pos tpos : Pos} {elts : List Expr} {kk : Nat} (hg : Gl X "zip") (hm : X.mg "zip" = none) (ha : PA X [e, e2] ta)
    (hs : starEach [e, e2] X.env = (false, eval e X.env) :: starEach [e2] X.env := by rfl) (hpl : (backTo pos (starEach [e2] X.env)).any (·.1) = false := by rfl) :
    PI X (.Tuple elts kk tpos) (.Call (.Name "zip" p) [e, e2] [] pos) (iZipLT X.K ta) := by
  intro pins s σ H R I h
  refine Call_ (ld_blt I hg hm boot_zip5 (PyProof.Rows.callWith_type1 (thn (ha pos pins s σ H _ I h) fun us s1 ⟨vs, H1, I1, r1, q1⟩ => ?_) hs hpl))
  obtain ⟨a, b, xs, ys, ex, hqx, hqy, q⟩ := q1
  subst ex
  cases r1 with
  | cons r rr =>
    cases rr with
    | cons r' rr =>
      cases rr
      cases r
      cases r'
      obtain ⟨its, rv, p1, _⟩ := I1.list hqx
      obtain ⟨its2, rv2, p2, _⟩ := I1.tuple hqy
      have la : a < s1.heap.objs.size := p1.lt
      have lb : b < s1.heap.objs.size := p2.lt
      refine LZ.call_new p1.isList (show s1.heap.IsTuple b its2.toArray from p2) fun h' hz hTI hTO h1 h2 hsz hk => wpAny_pyIter_zip hz ?_
      have I2 : Inv X pins σ H1 { s1 with heap := h' } := I1.kept (t' := s1.toks) hk
      refine ⟨s1.heap.objs.size + 4, [s1.heap.objs.size + 4, s1.heap.objs.size + 2, s1.heap.objs.size + 3, s1.heap.objs.size, s1.heap.objs.size + 1], _, _, H1, rfl, I2, turn_zipLT (PySem.W.ktu_apart s1.heap.objs.size a b la lb), ⟨hz, hTI, ⟨_, _, hTO⟩, h1, h2⟩, fun c hcm => ?_, q⟩
      have e' : c = s1.heap.objs.size + 4 ∨ c = s1.heap.objs.size + 2 ∨ c = s1.heap.objs.size + 3 ∨ c = s1.heap.objs.size ∨ c = s1.heap.objs.size + 1 := by simpa using hcm
      have hle : s1.heap.objs.size ≤ c := by
        rcases e' with z | z | z | z | z
        · rw [z]; exact Nat.le_add_right _ _
        · rw [z]; exact Nat.le_add_right _ _
        · rw [z]; exact Nat.le_add_right _ _
        · rw [z]; exact Nat.le_refl _
        · rw [z]; exact Nat.le_add_right _ _
      exact I1.fpOk hle (I1.hok.fresh hle)
/-- a list and a tuple side by side, which the body leaves as they are -/
theorem for_zipLT {K : PySem.W.Frag} {a b : Addr} {xs ys : List V} {g : TG} {tb : TS} {D : Ends} {σ : St} {H : Hp} (Pv : Nat → St → Hp → Prop) (h0 : Pv 0 σ H) (hlen : xs.length = ys.length) (hl : ∀ i σ H, i ≤ xs.length → Pv i σ H → SqL K H a xs ∧ SqT K H b ys)
    (hs : ∀ i x y σ H q, xs[i]? = some x → ys[i]? = some y → Pv i σ H → H q = none → g (.ref q) σ (upd H q (.tup [x, y])) fun σ2 H2 => tb { D with nx := Pv (i + 1), ct := Pv (i + 1), bk := D.nx } σ2 H2) (hd : ∀ σ H, Pv xs.length σ H → D.nx σ H) :
    ∃ W : Nat → Nat → St → Hp → Prop, (∃ m, W 0 m σ H) ∧ ∀ i m σ H, W i m σ H →
      ((ItzLT K a b).stop i H ∧ D.nx σ H) ∨ ((ItzLT K a b).go i H ∧ ∃ N : St → Hp → Prop, (∀ σ' H', N σ' H' → ∃ m', m' < m ∧ W (i + 1) m' σ' H') ∧ ∀ x H', (ItzLT K a b).yld i H x H' → g x σ H' fun σ2 H2 => tb { D with nx := N, ct := N, bk := D.nx } σ2 H2) := by
  refine ⟨fun i m σ H => m = xs.length - i ∧ i ≤ xs.length ∧ Pv i σ H, ⟨xs.length, by simp, Nat.zero_le _, h0⟩, ?_⟩
  rintro i m σ H ⟨rfl, hi, p⟩
  obtain ⟨q1, q2⟩ := hl i σ H hi p
  by_cases hlt : i < xs.length
  · refine .inr ⟨⟨xs, ys, xs[i], ys[i], q1, q2, by simp [hlt], by simp [← hlen, hlt]⟩, Pv (i + 1), fun σ' H' p' => ⟨xs.length - (i + 1), by omega, rfl, hlt, p'⟩, fun x H' y => ?_⟩
    obtain ⟨q, x1, y1, rfl, hq, rfl, hx, hy⟩ := y
    exact hs i x1 y1 σ H q (hx xs q1) (hy ys q2) p hq
  · have e : i = xs.length := by omega
    subst e
    exact .inl ⟨⟨xs, ys, q1, q2, .inl (Nat.le_refl _)⟩, hd σ H p⟩
/-- two lists side by side, which the body leaves as they are -/
theorem for_zipL {K : PySem.W.Frag} {a b : Addr} {xs ys : List V} {g : TG} {tb : TS} {D : Ends} {σ : St} {H : Hp} (Pv : Nat → St → Hp → Prop) (h0 : Pv 0 σ H) (hlen : xs.length = ys.length) (hl : ∀ i σ H, i ≤ xs.length → Pv i σ H → SqL K H a xs ∧ SqL K H b ys)
    (hs : ∀ i x y σ H q, xs[i]? = some x → ys[i]? = some y → Pv i σ H → H q = none → g (.ref q) σ (upd H q (.tup [x, y])) fun σ2 H2 => tb { D with nx := Pv (i + 1), ct := Pv (i + 1), bk := D.nx } σ2 H2) (hd : ∀ σ H, Pv xs.length σ H → D.nx σ H) :
    ∃ W : Nat → Nat → St → Hp → Prop, (∃ m, W 0 m σ H) ∧ ∀ i m σ H, W i m σ H →
      ((Itz K a b).stop i H ∧ D.nx σ H) ∨ ((Itz K a b).go i H ∧ ∃ N : St → Hp → Prop, (∀ σ' H', N σ' H' → ∃ m', m' < m ∧ W (i + 1) m' σ' H') ∧ ∀ x H', (Itz K a b).yld i H x H' → g x σ H' fun σ2 H2 => tb { D with nx := N, ct := N, bk := D.nx } σ2 H2) := by
  refine ⟨fun i m σ H => m = xs.length - i ∧ i ≤ xs.length ∧ Pv i σ H, ⟨xs.length, by simp, Nat.zero_le _, h0⟩, ?_⟩
  rintro i m σ H ⟨rfl, hi, p⟩
  obtain ⟨q1, q2⟩ := hl i σ H hi p
  by_cases hlt : i < xs.length
  · refine .inr ⟨⟨xs, ys, xs[i], ys[i], q1, q2, by simp [hlt], by simp [← hlen, hlt]⟩, Pv (i + 1), fun σ' H' p' => ⟨xs.length - (i + 1), by omega, rfl, hlt, p'⟩, fun x H' y => ?_⟩
    obtain ⟨q, x1, y1, rfl, hq, rfl, hx, hy⟩ := y
    exact hs i x1 y1 σ H q (hx xs q1) (hy ys q2) p hq
  · have e : i = xs.length := by omega
    subst e
    exact .inl ⟨⟨xs, ys, q1, q2, .inl (Nat.le_refl _)⟩, hd σ H p⟩
/-- a list with its places, which the body leaves as it is -/
theorem for_enumL {K : PySem.W.Frag} {a : Addr} {xs : List V} {g : TG} {tb : TS} {D : Ends} {σ : St} {H : Hp} (Pv : Nat → St → Hp → Prop) (h0 : Pv 0 σ H) (hl : ∀ i σ H, i ≤ xs.length → Pv i σ H → SqL K H a xs)
    (hs : ∀ i x σ H q, xs[i]? = some x → Pv i σ H → H q = none → g (.ref q) σ (upd H q (.tup [.int (i : Nat), x])) fun σ2 H2 => tb { D with nx := Pv (i + 1), ct := Pv (i + 1), bk := D.nx } σ2 H2) (hd : ∀ σ H, Pv xs.length σ H → D.nx σ H) :
    ∃ W : Nat → Nat → St → Hp → Prop, (∃ m, W 0 m σ H) ∧ ∀ i m σ H, W i m σ H →
      ((Ite K a).stop i H ∧ D.nx σ H) ∨ ((Ite K a).go i H ∧ ∃ N : St → Hp → Prop, (∀ σ' H', N σ' H' → ∃ m', m' < m ∧ W (i + 1) m' σ' H') ∧ ∀ x H', (Ite K a).yld i H x H' → g x σ H' fun σ2 H2 => tb { D with nx := N, ct := N, bk := D.nx } σ2 H2) := by
  refine ⟨fun i m σ H => m = xs.length - i ∧ i ≤ xs.length ∧ Pv i σ H, ⟨xs.length, by simp, Nat.zero_le _, h0⟩, ?_⟩
  rintro i m σ H ⟨rfl, hi, p⟩
  have q1 := hl i σ H hi p
  by_cases hlt : i < xs.length
  · refine .inr ⟨⟨xs, xs[i], q1, by simp [hlt]⟩, Pv (i + 1), fun σ' H' p' => ⟨xs.length - (i + 1), by omega, rfl, hlt, p'⟩, fun x H' y => ?_⟩
    obtain ⟨q, x1, rfl, hq, rfl, hx⟩ := y
    exact hs i x1 σ H q (hx xs q1) p hq
  · have e : i = xs.length := by omega
    subst e
    exact .inl ⟨⟨xs, q1, Nat.le_refl _⟩, hd σ H p⟩
/-- a comprehension over two lists side by side -/
theorem lc_zipL {K : PySem.W.Frag} {a b : Addr} {xs ys : List V} {g : TG} {tt : TT} {te : TE} {vs : List Nat} {σ : St} {H1 : Hp} {D : Addr} {Qd : Hp → Prop} (Pv : Nat → Hp → Prop) (h0 : Pv 0 (upd H1 D (.lst []))) (hlen : xs.length = ys.length) (hl : ∀ i H, i ≤ xs.length → Pv i H → SqL K H a xs ∧ SqL K H b ys)
    (hs : ∀ i x y H q, xs[i]? = some x → ys[i]? = some y → Pv i H → H q = none → g (.ref q) (wipe σ vs) (upd H q (.tup [x, y])) fun σ2 H2 => wipe σ2 vs = wipe σ vs ∧ tt σ2 H2 fun b H3 =>
      if b = true then te σ2 H3 fun y H4 => ∃ acc, H4 D = some (.lst acc) ∧ acc.length < sizeLine ∧ Pv (i + 1) (upd H4 D (.lst (acc ++ [y]))) else Pv (i + 1) H3) (hd : ∀ H, Pv xs.length H → Qd H) :
    ∃ W : Nat → Nat → Hp → Prop, (∃ m, W 0 m (upd H1 D (.lst []))) ∧ ∀ i m H, W i m H →
      ((Itz K a b).stop i H ∧ Qd H) ∨ ((Itz K a b).go i H ∧ ∃ Nx : Hp → Prop, (∀ H', Nx H' → ∃ m', m' < m ∧ W (i + 1) m' H') ∧ ∀ x H', (Itz K a b).yld i H x H' → g x (wipe σ vs) H' fun σ2 H2 => wipe σ2 vs = wipe σ vs ∧ tt σ2 H2 fun b H3 =>
        if b = true then te σ2 H3 fun y H4 => ∃ acc, H4 D = some (.lst acc) ∧ acc.length < sizeLine ∧ Nx (upd H4 D (.lst (acc ++ [y]))) else Nx H3) := by
  refine ⟨fun i m H => m = xs.length - i ∧ i ≤ xs.length ∧ Pv i H, ⟨xs.length, by simp, Nat.zero_le _, h0⟩, ?_⟩
  rintro i m H ⟨rfl, hi, p⟩
  obtain ⟨q1, q2⟩ := hl i H hi p
  by_cases hlt : i < xs.length
  · refine .inr ⟨⟨xs, ys, xs[i], ys[i], q1, q2, by simp [hlt], by simp [← hlen, hlt]⟩, Pv (i + 1), fun H' p' => ⟨xs.length - (i + 1), by omega, rfl, hlt, p'⟩, fun x H' y => ?_⟩
    obtain ⟨q, x1, y1, rfl, hq, rfl, hx, hy⟩ := y
    exact hs i x1 y1 H q (hx xs q1) (hy ys q2) p hq
  · have e : i = xs.length := by omega
    subst e
    exact .inl ⟨⟨xs, ys, q1, q2, .inl (Nat.le_refl _)⟩, hd H p⟩
/-! ### a method that is called -/
structure MethF (P : Program) (w : World) (K : PySem.W.Frag) (mg : Str → Option Value) (base : Heap) (k : Nat) (m : Str) (C : Addr) (ps : List Str) (sp : Sp) : Prop where
  ex : ∃ f fd, Cls K C ∧ Meth K C m f ∧ FnOk P w K mg base CX0 k f fd ps sp ∧ Binds K fd ps []
section
variable {X : Cx} {k : Nat} {C : Addr} {ps : List Str} {sp : Sp} {m : Str} {apos pos : Pos} {o e : Expr} {es : List Expr} {ta : TE} {t : TA}
theorem pe_methF {pl : Sem Bool} (c : MethF X.prog X.w X.K X.mg X.base k m C ps sp) (he : PE X o ta) (hr : Room k X.A) (ha : PA X (e :: es) t)
    (hst : starEach (e :: es) X.env = (false, eval e X.env) :: starEach es X.env := by rfl) (hpl : (backTo pos (starEach es X.env)).any (·.1) = false := by rfl)
    (ht : eval (.Call (.Attribute o m apos) (e :: es) [] pos) X.env = (do
      let ov ← eval o X.env
      standAt apos.atName
      let (f, first) ← holding [ov] (getMethod ov m pl)
      callWith pos f first (backTo pos (starEach (e :: es) X.env)) (backToKw pos (keywordEach [] X.env))) := by rfl) :
    PE X (.Call (.Attribute o m apos) (e :: es) [] pos) (tMeth C m sp [] E0 ta t) := by
  obtain ⟨f, fd, hc, hm, F, hb⟩ := c.ex
  exact pe_meth he hc hm F hr hb .nil pass0 ha hst hpl ht
end
/-! ### is None, readings by name -/
def rIsN : R2 := fun x y H Q => y = .non ∧ Q (.bl (decide (x = .non))) H
def rNotN : R2 := fun x y H Q => y = .non ∧ Q (.bl (!decide (x = .non))) H
end L2

set_option linter.all false
set_option maxRecDepth 100000
namespace L2
open PySem
/-! ### readings by name -/
def rLen (K : PySem.W.Frag) : List V → Hp → VK → Prop := fun xs H Q => ∃ p ys, xs = [.ref p] ∧ (SqL K H p ys ∨ SqT K H p ys) ∧ Q (.int ys.length) H
def rTupleOf (K : PySem.W.Frag) : List V → Hp → VK → Prop := fun xs H Q => ∃ p ys, xs = [.ref p] ∧ ((SqL K H p ys ∧ ∀ l, H l = none → Q (.ref l) (upd H l (.tup ys))) ∨ (SqT K H p ys ∧ Q (.ref p) H))
def rListOf (K : PySem.W.Frag) : List V → Hp → VK → Prop := fun xs H Q => ∃ p ys, xs = [.ref p] ∧ (SqL K H p ys ∨ SqT K H p ys) ∧ ∀ l, H l = none → Q (.ref l) (upd H l (.lst ys))
def rMax2 : List V → Hp → VK → Prop := fun xs H Q => ∃ i j, xs = [.int i, .int j] ∧ Q (.int (if j > i then j else i)) H
def rMin2 : List V → Hp → VK → Prop := fun xs H Q => ∃ i j, xs = [.int i, .int j] ∧ Q (.int (if j < i then j else i)) H
/-! ### loops in short -/
section
variable {K : PySem.W.Frag} {g : TG} {tb : TS} {D : Ends} {σ : St} {H : Hp} {tl : TE}
theorem for_l {a : Addr} {xs : List V} (he : ∀ R : VK, R (.ref a) H → tl σ H R) (hl0 : SqL K H a xs) (Pv : Nat → St → Hp → Prop) (h0 : Pv 0 σ H) (hl : ∀ i σ H, i ≤ xs.length → Pv i σ H → SqL K H a xs)
    (hs : ∀ i x σ H, xs[i]? = some x → Pv i σ H → g x σ H fun σ2 H2 => tb { D with nx := Pv (i + 1), ct := Pv (i + 1), bk := D.nx } σ2 H2) (hd : ∀ σ H, Pv xs.length σ H → D.nx σ H) : tFor (iList K tl) g tb D σ H :=
  he _ ⟨a, rfl, ⟨_, hl0⟩, for_list Pv h0 hl hs hd⟩
theorem for_ls {tr : TS} {a : Addr} {xs : List V} (he : ∀ R : VK, R (.ref a) H → tl σ H R) (hl0 : SqL K H a xs) (Pv : Nat → St → Hp → Prop) (h0 : Pv 0 σ H) (hl : ∀ i σ H, i ≤ xs.length → Pv i σ H → SqL K H a xs)
    (hs : ∀ i x σ H, xs[i]? = some x → Pv i σ H → g x σ H fun σ2 H2 => tb { D with nx := Pv (i + 1), ct := Pv (i + 1), bk := tr D } σ2 H2) (hd : ∀ σ H, Pv xs.length σ H → tr D σ H) : tSeq (tFor (iList K tl) g tb) tr D σ H :=
  for_l (D := { D with nx := tr D }) he hl0 Pv h0 hl hs hd
/-- the ends of a loop's body, by what they ask alone -/
theorem gen_D {tb : TS} {D : Ends} {N : St → Hp → Prop} {σ : St} {H : Hp} (h : ∀ D' : Ends, (∀ σ H, N σ H → D'.nx σ H) → (∀ σ H, D.nx σ H → D'.bk σ H) → D'.rt = D.rt → tb D' σ H) : tb { D with nx := N, ct := N, bk := D.nx } σ H :=
  h _ (fun _ _ z => z) (fun _ _ z => z) rfl
theorem for_t {a : Addr} {xs : List V} (he : ∀ R : VK, R (.ref a) H → tl σ H R) (hl0 : SqT K H a xs) (Pv : Nat → St → Hp → Prop) (h0 : Pv 0 σ H) (hl : ∀ i σ H, i ≤ xs.length → Pv i σ H → SqT K H a xs)
    (hs : ∀ i x σ H, xs[i]? = some x → Pv i σ H → g x σ H fun σ2 H2 => tb { D with nx := Pv (i + 1), ct := Pv (i + 1), bk := D.nx } σ2 H2) (hd : ∀ σ H, Pv xs.length σ H → D.nx σ H) : tFor (iTup K tl) g tb D σ H :=
  he _ ⟨a, rfl, ⟨_, hl0⟩, for_tup Pv h0 hl hs hd⟩
theorem for_zt {ta : TA} {a b : Addr} {xs ys : List V} (he : ∀ R : List V → Hp → Prop, R [.ref a, .ref b] H → ta σ H R) (h1 : SqT K H a xs) (h2 : SqT K H b ys) (Pv : Nat → St → Hp → Prop) (h0 : Pv 0 σ H) (hlen : xs.length = ys.length) (hl : ∀ i σ H, i ≤ xs.length → Pv i σ H → SqT K H a xs ∧ SqT K H b ys)
    (hs : ∀ i x y σ H q, xs[i]? = some x → ys[i]? = some y → Pv i σ H → H q = none → g (.ref q) σ (upd H q (.tup [x, y])) fun σ2 H2 => tb { D with nx := Pv (i + 1), ct := Pv (i + 1), bk := D.nx } σ2 H2) (hd : ∀ σ H, Pv xs.length σ H → D.nx σ H) : tFor (iZipT K ta) g tb D σ H :=
  he _ ⟨a, b, xs, ys, rfl, h1, h2, for_zipT Pv h0 hlen hl hs hd⟩
theorem for_r1 {ta : TA} {j : Int} (he : ∀ R : List V → Hp → Prop, R [.int j] H → ta σ H R) (b1 : -(2 ^ 62) ≤ j) (b2 : j < 2 ^ 62) (Pv : Nat → St → Hp → Prop) (h0 : Pv 0 σ H)
    (hs : ∀ i σ H, i < j.toNat → Pv i σ H → g (.int (0 + i)) σ H fun σ2 H2 => tb { D with nx := Pv (i + 1), ct := Pv (i + 1), bk := D.nx } σ2 H2) (hd : ∀ σ H, Pv j.toNat σ H → D.nx σ H) : tFor (iRng1 ta) g tb D σ H :=
  he _ ⟨j, rfl, b1, b2, for_range Pv h0 hs hd⟩
theorem for_r2 {ta : TA} {i0 j : Int} (he : ∀ R : List V → Hp → Prop, R [.int i0, .int j] H → ta σ H R) (b : -(2 ^ 62) ≤ i0 ∧ i0 < 2 ^ 62 ∧ -(2 ^ 62) ≤ j ∧ j < 2 ^ 62) (Pv : Nat → St → Hp → Prop) (h0 : Pv 0 σ H)
    (hs : ∀ i σ H, i < (j - i0).toNat → Pv i σ H → g (.int (i0 + i)) σ H fun σ2 H2 => tb { D with nx := Pv (i + 1), ct := Pv (i + 1), bk := D.nx } σ2 H2) (hd : ∀ σ H, Pv (j - i0).toNat σ H → D.nx σ H) : tFor (iRng2 ta) g tb D σ H :=
  he _ ⟨i0, j, rfl, b, for_range Pv h0 hs hd⟩
theorem for_r3 {ta : TA} {i0 j c : Int} {n : Nat} (he : ∀ R : List V → Hp → Prop, R [.int i0, .int j, .int c] H → ta σ H R) (b : RgC i0 j c n) (Pv : Nat → St → Hp → Prop) (h0 : Pv 0 σ H)
    (hs : ∀ i σ H, i < n → Pv i σ H → g (.int (i0 + (i : Nat) * c)) σ H fun σ2 H2 => tb { D with nx := Pv (i + 1), ct := Pv (i + 1), bk := D.nx } σ2 H2) (hd : ∀ σ H, Pv n σ H → D.nx σ H) : tFor (iRng3 ta) g tb D σ H :=
  he _ ⟨i0, j, c, n, rfl, b, for_rangeC Pv h0 hs hd⟩
theorem lc_r3 {tt : TT} {te : TE} {vs : List Nat} {Q : VK} {ta : TA} {i0 j c : Int} {n : Nat} (he : ∀ R : List V → Hp → Prop, R [.int i0, .int j, .int c] H → ta σ H R) (b : RgC i0 j c n)
    (h : ∀ D, H D = none → ∃ W : Nat → Nat → Hp → Prop, (∃ m, W 0 m (upd H D (.lst []))) ∧ ∀ i m H, W i m H →
      ((Itc i0 c n).stop i H ∧ Q (.ref D) H) ∨ ((Itc i0 c n).go i H ∧ ∃ Nx : Hp → Prop, (∀ H', Nx H' → ∃ m', m' < m ∧ W (i + 1) m' H') ∧ ∀ x H', (Itc i0 c n).yld i H x H' → g x (wipe σ vs) H' fun σ2 H2 => wipe σ2 vs = wipe σ vs ∧ tt σ2 H2 fun b H3 =>
        if b = true then te σ2 H3 fun y H4 => ∃ acc, H4 D = some (.lst acc) ∧ acc.length < sizeLine ∧ Nx (upd H4 D (.lst (acc ++ [y]))) else Nx H3)) : tLc (iRng3 ta) g tt te vs σ H Q :=
  he _ ⟨i0, j, c, n, rfl, b, h⟩
end
end L2
namespace BX
open PySem L2
open Vamati (Item Row Measure numbersOf good)
/-! ### the text's addresses -/
structure Adr where
  LEAST_NUMBERS : Addr
  WHOLE_COUNTS : Addr
  HAS_LIST : Addr
  MOST_OF_MEASURE : Addr
  MOST_OF_PLACES : Addr
  MOST_OF_BOX : Addr
  Edges : Addr
  Measure : Addr
  Line : Addr
def nv (l : List Int) : List V := l.map V.int
def mostM : List Int := [100000000, 100000000, 100000000]
def mostP : List Int := [100000000, 100000000, 100000000, 1, 1000000, 1000000]
def mostB : List Int := [100000000, 100000000, 100000000, 1000000, 1000000]
def lows : List Int := [0, -1000000, -1000000, 0, 0, 0, -1]
/-! ### heaps -/
def But (l : Addr) (H H' : Hp) : Prop := ∀ b o, H b = some o → b ≠ l → H' b = some o
theorem Same.but {l : Addr} {H H' : Hp} (s : Same H H') : But l H H' := fun b o e _ => s b o e
theorem same_new {H : Hp} {a : Addr} {o : HO} (h : H a = none) : Same H (upd H a o) := fun b u e => by rw [upd_ne (ne_of_none e h)]; exact e
theorem but_set {H : Hp} {a : Addr} {o : HO} : But a H (upd H a o) := fun b u e hb => by rw [upd_ne hb]; exact e
theorem But.trans {l : Addr} {H H1 H2 : Hp} (a : But l H H1) (b : But l H1 H2) : But l H H2 := fun c o e hc => b c o (a c o e hc) hc
theorem But.sqT {K : PySem.W.Frag} {l p : Addr} {H H' : Hp} {xs ys : List V} (k : But l H H') (hl : H l = some (.lst ys)) (h : SqT K H p xs) : SqT K H' p xs := by
  rcases h with (h | ⟨o, h⟩) | h
  · exact .inl (.inl (k _ _ h (ne_of h hl (by intro z; cases z))))
  · exact .inl (.inr ⟨o, k _ _ h (ne_of h hl (by intro z; cases z))⟩)
  · exact .inr h
theorem But.sqL {K : PySem.W.Frag} {l p : Addr} {H H' : Hp} {xs : List V} (k : But l H H') (hp : p ≠ l) (h : SqL K H p xs) : SqL K H' p xs := by
  rcases h with (h | ⟨o, h⟩) | h
  · exact .inl (.inl (k _ _ h hp))
  · exact .inl (.inr ⟨o, k _ _ h hp⟩)
  · exact .inr h
theorem Same.sqT {K : PySem.W.Frag} {p : Addr} {H H' : Hp} {xs : List V} (k : Same H H') (h : SqT K H p xs) : SqT K H' p xs := by
  rcases h with (h | ⟨o, h⟩) | h
  · exact .inl (.inl (k _ _ h))
  · exact .inl (.inr ⟨o, k _ _ h⟩)
  · exact .inr h
/-- an item's tuple -/
def ItAt (K : PySem.W.Frag) (H : Hp) (v : V) (a : Item) : Prop := ∃ p, v = .ref p ∧ SqT K H p (nv (numbersOf a))
def RowIs (K : PySem.W.Frag) (H : Hp) (xs : List V) (r : Row) : Prop := xs.length = r.length ∧ ∀ (i : Nat) (x : V) (a : Item), xs[i]? = some x → r[i]? = some a → ItAt K H x a
/-- the list at l holds the row r -/
def RowAt (K : PySem.W.Frag) (H : Hp) (l : Addr) (r : Row) : Prop := ∃ xs, H l = some (.lst xs) ∧ RowIs K H xs r
theorem RowIs.same {K : PySem.W.Frag} {H H' : Hp} {xs : List V} {r : Row} (s : Same H H') (h : RowIs K H xs r) : RowIs K H' xs r :=
  ⟨h.1, fun i x a hx ha => let ⟨p, e, q⟩ := h.2 i x a hx ha; ⟨p, e, Same.sqT s q⟩⟩
theorem RowIs.but {K : PySem.W.Frag} {H H' : Hp} {l : Addr} {ys xs : List V} {r : Row} (k : But l H H') (hl : H l = some (.lst ys)) (h : RowIs K H xs r) : RowIs K H' xs r :=
  ⟨h.1, fun i x a hx ha => let ⟨p, e, q⟩ := h.2 i x a hx ha; ⟨p, e, But.sqT k hl q⟩⟩
theorem RowAt.same {K : PySem.W.Frag} {H H' : Hp} {l : Addr} {r : Row} (s : Same H H') (h : RowAt K H l r) : RowAt K H' l r :=
  let ⟨xs, e, q⟩ := h; ⟨xs, s _ _ e, q.same s⟩
theorem nv_get {l : List Int} {i : Nat} {x : V} (h : (nv l)[i]? = some x) : ∃ n, l[i]? = some n ∧ x = .int n := by
  unfold nv at h
  rw [List.getElem?_map] at h
  cases e : l[i]? with
  | none => rw [e] at h; cases h
  | some n => rw [e] at h; exact ⟨n, rfl, (Option.some.inj h).symm⟩
theorem nv_at {l : List Int} {i : Nat} {n : Int} (h : l[i]? = some n) : (nv l)[i]? = some (.int n) := by
  unfold nv; rw [List.getElem?_map, h]; rfl
theorem nv_len (l : List Int) : (nv l).length = l.length := List.length_map ..
theorem vals_size {xs : List V} {its : Array Value} (v : Vals xs its.toList) (h : xs.length ≤ 1000) : its.size ≤ sizeLine := by
  rw [← Array.length_toList, ← v.length, sizeLine_eq]; omega
theorem el1 {P : List Value → Prop} (h : ∀ a, P [a]) : ∀ us : List Value, us.length = 1 → P us
  | [a], _ => h a
theorem el2 {P : List Value → Prop} (h : ∀ a b, P [a, b]) : ∀ us : List Value, us.length = 2 → P us
  | [a, b], _ => h a b
theorem el3 {P : List Value → Prop} (h : ∀ a b c, P [a, b, c]) : ∀ us : List Value, us.length = 3 → P us
  | [a, b, c], _ => h a b c
theorem el4 {P : List Value → Prop} (h : ∀ a b c d, P [a, b, c, d]) : ∀ us : List Value, us.length = 4 → P us
  | [a, b, c, d], _ => h a b c d
theorem el5 {P : List Value → Prop} (h : ∀ a b c d e, P [a, b, c, d, e]) : ∀ us : List Value, us.length = 5 → P us
  | [a, b, c, d, e], _ => h a b c d e
theorem el6 {P : List Value → Prop} (h : ∀ a b c d e f, P [a, b, c, d, e, f]) : ∀ us : List Value, us.length = 6 → P us
  | [a, b, c, d, e, f], _ => h a b c d e f
/-- what the text has -/
structure Tx (K : PySem.W.Frag) (t : Adr) : Prop where
  lnum : ∀ H, SqT K H t.LEAST_NUMBERS (nv lows)
  wcnt : ∀ H, SqT K H t.WHOLE_COUNTS (nv BL.counts)
  hlst : ∀ H, SqT K H t.HAS_LIST (BL.lists.map V.bl)
  cls : Cls K t.Edges
  nbegins : NoAttr K t.Edges "begins"
  nstops : NoAttr K t.Edges "stops"
  ntbegins : NoAttr K t.Edges "tight_begins"
  ntstops : NoAttr K t.Edges "tight_stops"
  mmea : ∀ H, SqT K H t.MOST_OF_MEASURE (nv mostM)
  mpla : ∀ H, SqT K H t.MOST_OF_PLACES (nv mostP)
  mbox : ∀ H, SqT K H t.MOST_OF_BOX (nv mostB)
  clsM : Cls K t.Measure
  mwidth : NoAttr K t.Measure "width"
  mfirst : NoAttr K t.Measure "first"
  mindent : NoAttr K t.Measure "indent"
  clsL : Cls K t.Line
  lbegin : NoAttr K t.Line "begin"
  lend : NoAttr K t.Line "end"
  lis_last : NoAttr K t.Line "is_last"
  lindent : NoAttr K t.Line "indent"
  lnatural : NoAttr K t.Line "natural"
  lstretch : NoAttr K t.Line "stretch"
  lshrink : NoAttr K t.Line "shrink"
  lslack : NoAttr K t.Line "slack"
  loverfull : NoAttr K t.Line "overfull"
  lheight : NoAttr K t.Line "height"
  ldepth : NoAttr K t.Line "depth"
  lcost : NoAttr K t.Line "cost"
end BX

set_option linter.all false
set_option maxRecDepth 100000
namespace BX
open PySem L2
open Vamati (Item Row Measure numbersOf good)
theorem scal_int (i j : Int) : scal (.int i) (.int j) = true := rfl
local macro_rules | `(tactic| walk_at "rd") => `(tactic| simp only [L2.start, tYes, tSl, tPart, tNoPart, rSlL, rTupleOf, rLen, tBM, rAppend, rExtend, rInsert, rPopAt, gSub, rSetL, tSeq, tAsg, gName, gCons, gNil, gTup, tVar, tC, tOp, tUn, rI0, rI, rU, tTest, tIfS, tRet, tRetN, tNext, tDrop, tBreak, tCont, tAug, tNot, tAnd, tOr, tIf, tChain, rEq, rNe, rNotN, rMax2, rMin2, scal_int, tNil, tCons, tCB, tCall, tTup, tLst, rIxL, rIxT, List.map_cons, List.map_nil, List.length_cons, List.length_nil, List.replicate, List.cons_append, List.nil_append, List.getElem?_cons_zero, List.getElem?_cons_succ, List.set_cons_zero, List.set_cons_succ, Option.some.injEq, exists_eq_left', exists_and_left, List.cons.injEq, V.ref.injEq, V.int.injEq, V.bl.injEq, Nat.reduceAdd, Nat.reduceSub, and_true, true_and, decide_eq_true_eq, Bool.not_eq_true', decide_eq_false_iff_not])
def sp_fits (K : PySem.W.Frag) (t : Adr) : Sp := fun vs H Q _ => ∃ (p : Addr) (a : Item), vs = [.ref p] ∧ SqT K H p (nv (numbersOf a)) ∧ ∀ H', Same H H' → Q (.bl (good a)) H'
def rd_fits (K : PySem.W.Frag) (t : Adr) : TS :=
  (tSeq (tFor (iZipT K (tCons (tVar 0) (tCons (tC (.ref t.LEAST_NUMBERS)) tNil))) (gTup K 2 (gCons (gName 1) (gCons (gName 2) gNil)))
    (tIfS (tNot (tTest (tChain (rI0 fun i j => .bl (decide (i ≤ j))) (rI0 fun i j => .bl (decide (i ≤ j))) (tVar 2) (tVar 1) (tC (.int (1000000))))))
      (tRet (tC (.bl false)))
      tNext))
  (tRet (tOp (rI0 fun i j => .bl (decide (i ≤ j))) (tOp (rIxT K) (tVar 0) (tC (.int (5)))) (tOp (rIxT K) (tVar 0) (tC (.int (3)))))))
def okTo (a : Item) (i : Nat) : Bool := (((numbersOf a).zip lows).take i).all fun p => decide (p.2 ≤ p.1) && decide (p.1 ≤ 1000000)
theorem good_ok (a : Item) : good a = (okTo a 7 && decide (a.shrink ≤ a.space)) := by
  rw [Bool.eq_iff_iff, BL.good_iff]
  simp [okTo, numbersOf, lows]
  omega
theorem okTo_succ (a : Item) {i : Nat} {x y : Int} (hx : (numbersOf a)[i]? = some x) (hy : lows[i]? = some y) : okTo a (i + 1) = (okTo a i && (decide (y ≤ x) && decide (x ≤ 1000000))) := by
  unfold okTo
  have e : ((numbersOf a).zip lows)[i]? = some (x, y) := by rw [List.getElem?_zip_eq_some]; exact ⟨hx, hy⟩
  rw [List.take_succ_eq_append_getElem (List.getElem?_eq_some_iff.mp e).1, List.all_append, (List.getElem?_eq_some_iff.mp e).2]
  simp
theorem okTo_not {a : Item} {i : Nat} (h : okTo a i = false) : good a = false := by
  rw [good_ok]
  have : okTo a 7 = false := by
    unfold okTo at *
    rw [List.all_eq_false] at *
    obtain ⟨x, hx, q⟩ := h
    refine ⟨x, ?_, q⟩
    have := List.mem_of_mem_take hx
    rwa [List.take_of_length_le (by simp [numbersOf, lows])]
  rw [this]; rfl
theorem rdok_fits {K : PySem.W.Frag} {t : Adr} (T : Tx K t) {vs : List V} {H : Hp} {Q : VK} {E : XK} (h : sp_fits K t vs H Q E) : rd_fits K t { nx := fun _ H' => Q .non H', rt := Q } (L2.start ["box", "number", "least"] vs) H := by
  obtain ⟨p, a, rfl, hp, k⟩ := h
  unfold rd_fits
  refine for_zt (a := p) (b := t.LEAST_NUMBERS) (fun R h => ⟨_, rfl, h⟩) hp (T.lnum H) (fun i σ H' => Same H H' ∧ (∃ v w, σ = [some (.ref p), v, w]) ∧ okTo a i = true) ⟨Same.refl H, ⟨_, _, rfl⟩, rfl⟩ rfl (fun i σ H' _ q => ⟨Same.sqT q.1 hp, T.lnum H'⟩) ?_ ?_
  · rintro i x y σ H' q hx hy ⟨hs, ⟨v, w, rfl⟩, hok⟩ hq
    obtain ⟨n, hn, rfl⟩ := nv_get hx
    obtain ⟨m, hm, rfl⟩ := nv_get hy
    have s2 : Same H (upd H' q (.tup [V.int n, V.int m])) := hs.trans (same_new hq)
    walk_at "rd"
    refine ⟨_, SqT.of upd_same, rfl, _, _, rfl, _, _, rfl, rfl, _, rfl, ?_⟩
    have e1 := okTo_succ a hn hm
    by_cases h1 : m ≤ n
    · by_cases h2 : n ≤ 1000000
      · simp [h1, h2, hok, show ¬ 1000000 < n by omega] at e1 ⊢
        exact ⟨s2, e1⟩
      · simp [h1, h2, show 1000000 < n by omega] at e1 ⊢
        have := k _ s2
        rwa [okTo_not e1] at this
    · simp [h1] at e1 ⊢
      have := k _ s2
      rwa [okTo_not e1] at this
  · rintro σ H' ⟨hs, ⟨v, w, rfl⟩, hok⟩
    walk_at "rd"
    have hp' := Same.sqT hs hp
    refine ⟨_, hp', .int a.shrink, rfl, _, hp', .int a.space, rfl, _, rfl, _, rfl, ?_⟩
    have e := good_ok a
    rw [show okTo a 7 = true from hok, Bool.true_and] at e
    rw [← e]
    exact k _ hs
theorem rg7 (n : Nat) (h : n ≤ 100000) : RgC 0 ((7 * n : Nat) : Int) 7 n := by
  have e : Builtin.Range.rangeSize 0 ((7 * n : Nat) : Int) 7 = n := by
    unfold Builtin.Range.rangeSize
    rw [if_pos (by decide)]
    split <;> omega
  refine ⟨by decide, by decide, ?_, e⟩
  unfold Builtin.Range.small
  rw [e]
  have f : ∀ z : Int, 0 ≤ z → z ≤ 800000 → Builtin.Range.rangeFitsLong z = true := fun z h1 h2 => by
    unfold Builtin.Range.rangeFitsLong
    rw [Bool.and_eq_true, decide_eq_true_eq, decide_eq_true_eq]
    constructor <;> omega
  simp only [f 0 (by omega) (by omega), f ((7 * n : Nat) : Int) (by omega) (by omega), f 7 (by omega) (by omega), f (n : Int) (by omega) (by omega), Bool.true_and]
  rw [if_pos (by decide), f _ (by omega) (by omega), Bool.or_true]
theorem cut_seven (r : Row) {i : Nat} {a : Item} (h : r[i]? = some a) : cutV (nv (r.flatMap numbersOf)) (some (0 + (i : Nat) * 7 : Int)) (some ((0 + (i : Nat) * 7 : Int) + 7)) = nv (numbersOf a) := by
  have hi : i < r.length := (List.getElem?_eq_some_iff.mp h).1
  have e := BL.flat_cut r h
  have l : (nv (r.flatMap numbersOf)).length = 7 * r.length := by rw [nv_len, BL.flat_len]
  unfold cutV
  rw [l]
  have e1 : HT.sIx (7 * r.length) 0 (some (0 + (i : Nat) * 7 : Int)) = 7 * i := by unfold HT.sIx; simp only; split <;> omega
  have e2 : HT.sIx (7 * r.length) (7 * r.length) (some ((0 + (i : Nat) * 7 : Int) + 7)) = 7 * i + 7 := by unfold HT.sIx; simp only; split <;> omega
  rw [e1, e2, show 7 * i + 7 - 7 * i = 7 by omega]
  unfold nv
  rw [← List.map_drop, ← List.map_take, e]
def sp_cut (K : PySem.W.Frag) (t : Adr) : Sp := fun vs H Q _ => ∃ (l : Addr) (r : Row), vs = [.ref l] ∧ SqL K H l (nv (r.flatMap numbersOf)) ∧ r.length ≤ 10000 ∧ ∀ H' d, Same H H' → H d = none → RowAt K H' d r → Q (.ref d) H'
def rd_cut (K : PySem.W.Frag) (t : Adr) : TS :=
  (tRet (tLc (iRng3 (tCons (tC (.int 0)) (tCons (tCB (rLen K) (tCons (tVar 0) tNil)) (tCons (tC (.int (7))) tNil)))) (gName 1) tYes (tCB (rTupleOf K) (tCons (tSl (rSlL K) (tVar 0) (tPart (tVar 1)) (tPart (tOp (rI0 fun i j => .int (i + j)) (tVar 1) (tC (.int (7)))))) tNil)) [1]))
theorem RowIs.snoc {K : PySem.W.Frag} {H : Hp} {xs : List V} {r : Row} {i : Nat} {x : V} {a : Item} (h : RowIs K H xs (r.take i)) (ha : r[i]? = some a) (hx : ItAt K H x a) : RowIs K H (xs ++ [x]) (r.take (i + 1)) := by
  have hi : i < r.length := (List.getElem?_eq_some_iff.mp ha).1
  have e : r.take (i + 1) = r.take i ++ [a] := by rw [List.take_succ_eq_append_getElem hi, (List.getElem?_eq_some_iff.mp ha).2]
  rw [e]
  refine ⟨by simp [h.1], fun j y b hy hb => ?_⟩
  by_cases hj : j < xs.length
  · rw [List.getElem?_append_left hj] at hy
    rw [List.getElem?_append_left (by rw [← h.1]; exact hj)] at hb
    exact h.2 j y b hy hb
  · rw [List.getElem?_append_right (by omega)] at hy
    rw [List.getElem?_append_right (by rw [← h.1]; omega), ← h.1] at hb
    have hj0 : j - xs.length = 0 := by
      rcases Nat.eq_zero_or_pos (j - xs.length) with z | z
      · exact z
      · rw [List.getElem?_eq_none (by simp; omega)] at hy; cases hy
    rw [hj0] at hy hb
    have e1 : x = y := by simpa using hy
    have e2 : a = b := by simpa using hb
    subst e1 e2
    exact hx
theorem rdok_cut {K : PySem.W.Frag} {t : Adr} (T : Tx K t) {vs : List V} {H : Hp} {Q : VK} {E : XK} (h : sp_cut K t vs H Q E) : rd_cut K t { nx := fun _ H' => Q .non H', rt := Q } (L2.start ["numbers", "at"] vs) H := by
  obtain ⟨l, r, rfl, hl, hn, k⟩ := h
  have hlen : (nv (r.flatMap numbersOf)).length = 7 * r.length := by rw [nv_len, BL.flat_len]
  unfold rd_cut
  refine lc_r3 (i0 := 0) (j := (nv (r.flatMap numbersOf)).length) (c := 7) (n := r.length) (fun R h => ⟨_, rfl, l, _, rfl, .inl hl, h⟩) (by rw [hlen]; exact rg7 _ (by omega)) fun D hD => ?_
  refine lc_rangeC (fun i H' => Same H H' ∧ ∃ xs, H' D = some (.lst xs) ∧ RowIs K H' xs (r.take i)) ⟨same_new hD, [], upd_same, by simp [RowIs]⟩ ?_ ?_
  · rintro i H' hi ⟨hs, xs, hx, hr⟩
    have ha : r[i]? = some r[i] := List.getElem?_eq_getElem hi
    unfold wipe wipe
    walk_at "rd"
    simp only [if_true]
    refine ⟨_, hs.seq hl, fun p hp => ⟨_, .inl ⟨SqL.of upd_same, fun q hq => ?_⟩⟩⟩
    have s1 : Same H' (upd H' p (.lst (cutV (nv (r.flatMap numbersOf)) (some (0 + (i : Nat) * 7 : Int)) (some ((0 + (i : Nat) * 7 : Int) + 7))))) := same_new hp
    have s2 := s1.trans (same_new (o := .tup (cutV (nv (r.flatMap numbersOf)) (some (0 + (i : Nat) * 7 : Int)) (some ((0 + (i : Nat) * 7 : Int) + 7)))) hq)
    have hx2 := s2 _ _ hx
    have hlx : xs.length = i := by rw [hr.1, List.length_take]; omega
    refine ⟨xs, hx2, by rw [hlx, sizeLine_eq]; omega, ?_, _, upd_same, ?_⟩
    · exact fun b o e => by
        rw [upd_ne (ne_of_none e hD)]
        exact s2 _ _ (hs _ _ e)
    · rw [cut_seven r ha] at *
      have k2 := but_set (H := upd (upd H' p (.lst (nv (numbersOf r[i])))) q (.tup (nv (numbersOf r[i])))) (a := D) (o := .lst (xs ++ [V.ref q]))
      refine RowIs.snoc ((hr.same s2).but k2 hx2) ha ⟨q, rfl, But.sqT k2 hx2 (SqT.of upd_same)⟩
  · rintro H' ⟨hs, xs, hx, hr⟩
    rw [List.take_length] at hr
    exact k H' D hs hD ⟨xs, hx, hr⟩
def rf {α : Type} : Except Int α → Int
  | .error e => e
  | .ok _ => 0
def sp_numbers_refusal (K : PySem.W.Frag) (t : Adr) : Sp := fun vs H Q _ => ∃ (l : Addr) (ns : List Int), vs = [.ref l] ∧ SqL K H l (nv ns) ∧ ns.length ≤ 17000 ∧ ∀ H', Same H H' → Q (.int (rf (Vamati.readItems ns))) H'
def rd_numbers_refusal (K : PySem.W.Frag) (t : Adr) : TS :=
  (tSeq (tIfS (tTest (tOp rNe (tOp (rI (fun _ j => 0 < j) fun i j => .int (i % j)) (tCB (rLen K) (tCons (tVar 0) tNil)) (tC (.int (7)))) (tC (.int 0))))
    (tRet (tC (.int (-1))))
    tNext)
  (tSeq (tFor (iList K (tCall (sp_cut K t) [] E0 (tCons (tVar 0) tNil))) (gName 1)
    (tIfS (tNot (fun σ H Q => (tCall (sp_fits K t) [] E0 (tCons (tVar 1) tNil)) σ H fun x H' => ∃ k, TruV K x H' k ∧ Q k H'))
      (tRet (tC (.int (-2))))
      tNext))
  (tRet (tC (.int (0))))))
theorem all_take {r : Row} {i : Nat} {a : Item} (ha : r[i]? = some a) : (r.take (i + 1)).all good = ((r.take i).all good && good a) := by
  have hi : i < r.length := (List.getElem?_eq_some_iff.mp ha).1
  rw [List.take_succ_eq_append_getElem hi, (List.getElem?_eq_some_iff.mp ha).2, List.all_append]
  simp
theorem all_not {r : Row} {i : Nat} (h : (r.take i).all good = false) : r.all good = false := by
  rw [List.all_eq_false] at *
  obtain ⟨x, hx, q⟩ := h
  exact ⟨x, List.mem_of_mem_take hx, q⟩
theorem rdok_numbers_refusal {K : PySem.W.Frag} {t : Adr} (T : Tx K t) {vs : List V} {H : Hp} {Q : VK} {E : XK} (h : sp_numbers_refusal K t vs H Q E) :
    rd_numbers_refusal K t { nx := fun _ H' => Q .non H', rt := Q } (L2.start ["numbers", "box"] vs) H := by
  obtain ⟨l, ns, rfl, hl, hn, k⟩ := h
  unfold rd_numbers_refusal
  walk_at "rd"
  refine ⟨_, .inl hl, by decide, ?_⟩
  rw [nv_len]
  by_cases hm : ns.length % 7 = 0
  · obtain ⟨r, rfl⟩ := BL.as_row ns hm
    have hz : ((r.flatMap numbersOf).length : Int) % 7 = 0 := by omega
    simp only [hz, not_true_eq_false, not_false_eq_true, Bool.true_eq_false, Bool.false_eq_true, decide_true, decide_false, Bool.not_true, Bool.not_false, if_false, if_true]
    show tCall (sp_cut K t) [] E0 _ _ _ _
    have hlr : r.length ≤ 10000 := by have := BL.flat_len r; omega
    refine ⟨_, rfl, l, r, rfl, hl, hlr, fun H' d hs hd ⟨xs, hx, hr⟩ => ⟨d, rfl, ⟨_, SqL.of hx⟩, ?_⟩⟩
    refine for_list (xs := xs) (fun i σ H2 => Same H' H2 ∧ (∃ v, σ = [some (.ref l), v]) ∧ (r.take i).all good = true) ⟨Same.refl _, ⟨_, rfl⟩, rfl⟩ (fun i σ H2 _ q => q.1.seq (SqL.of hx)) ?_ ?_
    · rintro i x σ H2 hxi ⟨hs2, ⟨v, rfl⟩, hok⟩
      have hi : i < r.length := by rw [← hr.1]; exact (List.getElem?_eq_some_iff.mp hxi).1
      have ha : r[i]? = some r[i] := List.getElem?_eq_getElem hi
      obtain ⟨p, rfl, hp⟩ := hr.2 i x _ hxi ha
      walk_at "rd"
      refine ⟨p, r[i], rfl, Same.sqT hs2 hp, fun H3 hs3 => ⟨_, rfl, ?_⟩⟩
      have e := all_take ha
      rw [hok, Bool.true_and] at e
      by_cases hg : good r[i] = true
      · rw [hg] at e
        simp only [hg, not_true_eq_false, not_false_eq_true, Bool.true_eq_false, Bool.false_eq_true, decide_true, decide_false, Bool.not_true, Bool.not_false, if_false, if_true]
        exact ⟨hs2.trans hs3, ⟨_, rfl⟩, e⟩
      · rw [Bool.not_eq_true] at hg
        rw [hg] at e
        simp only [hg, not_true_eq_false, not_false_eq_true, Bool.true_eq_false, Bool.false_eq_true, decide_true, decide_false, Bool.not_true, Bool.not_false, if_false, if_true]
        have := k _ ((hs.trans hs2).trans hs3)
        rw [BL.readItems_flat, all_not e] at this
        exact this
    · rintro σ H2 ⟨hs2, ⟨v, rfl⟩, hok⟩
      walk_at "rd"
      have := k _ (hs.trans hs2)
      rw [hr.1, List.take_length] at hok
      rw [BL.readItems_flat, hok] at this
      exact this
  · have hz : ¬ ((ns.length : Int) % 7 = 0) := by omega
    simp only [hz, not_true_eq_false, not_false_eq_true, Bool.true_eq_false, Bool.false_eq_true, decide_true, decide_false, Bool.not_true, Bool.not_false, if_false, if_true]
    have := k H (Same.refl H)
    rw [BL.readItems_bad hm] at this
    exact this
def sp_item_refusal (K : PySem.W.Frag) (t : Adr) : Sp := fun vs H Q _ => ∃ (l : Addr) (ns : List Int), vs = [.ref l] ∧ SqL K H l (nv ns) ∧ ns.length ≤ 17000 ∧ ∀ H', Same H H' → Q (.int (rf (Vamati.readItem ns))) H'
def rd_item_refusal (K : PySem.W.Frag) (t : Adr) : TS :=
  (tSeq (tIfS (tTest (tOp rNe (tCB (rLen K) (tCons (tVar 0) tNil)) (tC (.int (7)))))
    (tRet (tC (.int (-1))))
    tNext)
  (tRet (tCall (sp_numbers_refusal K t) [] E0 (tCons (tVar 0) tNil))))
theorem rdok_item_refusal {K : PySem.W.Frag} {t : Adr} (T : Tx K t) {vs : List V} {H : Hp} {Q : VK} {E : XK} (h : sp_item_refusal K t vs H Q E) :
    rd_item_refusal K t { nx := fun _ H' => Q .non H', rt := Q } (L2.start ["numbers"] vs) H := by
  obtain ⟨l, ns, rfl, hl, hn, k⟩ := h
  unfold rd_item_refusal
  walk_at "rd"
  refine ⟨_, .inl hl, ?_⟩
  rw [nv_len]
  by_cases hm : ns.length = 7
  · obtain ⟨a, rfl⟩ := BL.seven ns hm
    have hz : ((numbersOf a).length : Int) = 7 := rfl
    simp only [hz, not_true_eq_false, not_false_eq_true, Bool.true_eq_false, Bool.false_eq_true, decide_true, decide_false, Bool.not_true, Bool.not_false, if_false, if_true]
    refine ⟨l, _, rfl, hl, hn, fun H' hs => ?_⟩
    have := k H' hs
    rw [BL.readItem_seven] at this
    have e : numbersOf a = [a].flatMap numbersOf := by simp
    rw [e, BL.readItems_flat]
    by_cases hg : good a = true
    · simpa [hg, rf] using this
    · simpa [hg, rf] using this
  · have hz : ¬ ((ns.length : Int) = 7) := by omega
    simp only [hz, not_true_eq_false, not_false_eq_true, Bool.true_eq_false, Bool.false_eq_true, decide_true, decide_false, Bool.not_true, Bool.not_false, if_false, if_true]
    have := k H (Same.refl H)
    unfold Vamati.readItem at this
    rw [if_pos hm] at this
    exact this
theorem readItems_cases (ns : List Int) : (∃ e, Vamati.readItems ns = .error e ∧ e < 0) ∨ ∃ r, Vamati.readItems ns = .ok r ∧ ns = r.flatMap numbersOf ∧ r.all good = true := by
  by_cases hm : ns.length % 7 = 0
  · obtain ⟨r, rfl⟩ := BL.as_row ns hm
    rw [BL.readItems_flat]
    by_cases hg : r.all good = true
    · exact .inr ⟨r, by rw [if_pos hg], rfl, hg⟩
    · exact .inl ⟨-2, by rw [if_neg hg], by omega⟩
  · exact .inl ⟨-1, BL.readItems_bad hm, by omega⟩
theorem readItem_cases (ns : List Int) : (∃ e, Vamati.readItem ns = .error e ∧ e < 0) ∨ ∃ a, Vamati.readItem ns = .ok a ∧ ns = numbersOf a ∧ good a = true := by
  by_cases hm : ns.length = 7
  · obtain ⟨a, rfl⟩ := BL.seven ns hm
    rw [BL.readItem_seven]
    by_cases hg : good a = true
    · exact .inr ⟨a, by rw [if_pos hg], rfl, hg⟩
    · exact .inl ⟨-2, by rw [if_neg hg], by omega⟩
  · exact .inl ⟨-1, by unfold Vamati.readItem; rw [if_pos hm], by omega⟩
theorem one_le : (1 : Nat) ≤ sizeLine := by rw [sizeLine_eq]; omega
/-- a call that changes the row at l (or not) and gives a new list of numbers -/
def Does (K : PySem.W.Frag) (H : Hp) (l : Addr) (st : Vamati.State × Vamati.Answer) (Q : VK) : Prop :=
  ∀ H' q, But l H H' → H q = none → H' q = some (.lst (nv st.2)) → RowAt K H' l st.1.row → Q (.ref q) H'
theorem Does.plain {K : PySem.W.Frag} {H H1 : Hp} {l : Addr} {st : Vamati.State × Vamati.Answer} {Q : VK} {q : Addr} (k : Does K H l st Q) (hs : Same H H1) (hr : RowAt K H l st.1.row) (hq : H1 q = none) : Q (.ref q) (upd H1 q (.lst (nv st.2))) :=
  k _ q (Same.but (hs.trans (same_new hq))) (hs.free hq) upd_same (hr.same (hs.trans (same_new hq)))
theorem Does.fin {K : PySem.W.Frag} {H H2 : Hp} {l : Addr} {st : Vamati.State × Vamati.Answer} {Q : VK} {ys : List V} (k : Does K H l st Q) (kb : But l H H2) (hl : H2 l = some (.lst ys)) (hr : RowIs K H2 ys st.1.row) {p : Addr} (hp : H2 p = none) : Q (.ref p) (upd H2 p (.lst (nv st.2))) := by
  have s := same_new (o := .lst (nv st.2)) hp
  refine k _ p (But.trans kb (Same.but s)) ?_ upd_same ⟨ys, s _ _ hl, hr.same s⟩
  cases q : H p with
  | none => rfl
  | some o =>
    by_cases e : p = l
    · rw [e, hl] at hp; cases hp
    · rw [kb p o q e] at hp; cases hp
def sp_add (K : PySem.W.Frag) (t : Adr) : Sp := fun vs H Q _ => ∃ (l d : Addr) (r : Row) (ns : List Int), vs = [.ref l, .ref d] ∧ RowAt K H l r ∧ SqL K H d (nv ns) ∧ d ≠ l ∧ r.length ≤ 300 ∧ ns.length ≤ 17000 ∧ Does K H l (Vamati.doAdd ⟨r⟩ ns) Q
def rd_add (K : PySem.W.Frag) (t : Adr) : TS :=
  (tSeq (tAsg (tCall (sp_numbers_refusal K t) [] E0 (tCons (tVar 1) tNil)) (gName 2))
  (tSeq (tIfS (tTest (tOp rNe (tVar 2) (tC (.int (0)))))
    (tRet (tLst (tCons (tVar 2) tNil)))
    tNext)
  (tSeq (tIfS (tTest (tOp (rI0 fun i j => .bl (decide (j < i))) (tOp (rI0 fun i j => .int (i + j)) (tCB (rLen K) (tCons (tVar 0) tNil)) (tOp (rI CDivB fun i j => .int (i / j)) (tCB (rLen K) (tCons (tVar 1) tNil)) (tC (.int (7))))) (tC (.int (300)))))
    (tRet (tLst (tCons (tC (.int (-3))) tNil)))
    tNext)
  (tSeq (tDrop (tBM K "list" rExtend (tVar 0) (tCons (tCall (sp_cut K t) [] E0 (tCons (tVar 1) tNil)) tNil)))
  (tRet (tLst (tCons (tC (.int (0))) tNil)))))))
theorem RowIs.append {K : PySem.W.Frag} {H : Hp} {xs ys : List V} {r s : Row} (h : RowIs K H xs r) (h2 : RowIs K H ys s) : RowIs K H (xs ++ ys) (r ++ s) := by
  refine ⟨by simp [h.1, h2.1], fun j y b hy hb => ?_⟩
  by_cases hj : j < xs.length
  · rw [List.getElem?_append_left hj] at hy
    rw [List.getElem?_append_left (by rw [← h.1]; exact hj)] at hb
    exact h.2 j y b hy hb
  · rw [List.getElem?_append_right (by omega)] at hy
    rw [List.getElem?_append_right (by rw [← h.1]; omega), ← h.1] at hb
    exact h2.2 _ y b hy hb
theorem rdok_add {K : PySem.W.Frag} {t : Adr} (T : Tx K t) {vs : List V} {H : Hp} {Q : VK} {E : XK} (h : sp_add K t vs H Q E) :
    rd_add K t { nx := fun _ H' => Q .non H', rt := Q } (L2.start ["boxes", "numbers", "refusal"] vs) H := by
  obtain ⟨l, d, r, ns, rfl, hrow, hd, hdl, hn, hm, k⟩ := h
  obtain ⟨xs, hx, hr⟩ := id hrow
  unfold rd_add
  walk_at "rd"
  refine ⟨d, ns, rfl, hd, hm, fun H1 s1 => ?_⟩
  rcases readItems_cases ns with ⟨e, he, hneg⟩ | ⟨r2, he, rfl, hg⟩
  · have hz : ¬ (e = 0) := by omega
    have ed : Vamati.doAdd ⟨r⟩ ns = (⟨r⟩, [e]) := by unfold Vamati.doAdd; rw [he]
    rw [ed] at k
    simp only [he, rf]
    walk_at "rd"
    rw [if_pos hz]
    exact ⟨one_le, fun p hp => k.plain s1 hrow hp⟩
  · have hl2 := BL.flat_len r2
    simp only [he, rf]
    walk_at "rd"
    rw [if_neg (by simp)]
    refine ⟨_, .inl (SqL.of (s1 _ _ hx)), _, .inl (s1.seq hd), ⟨by omega, by decide⟩, ?_⟩
    rw [nv_len, hr.1, hl2]
    have ediv : ((7 * r2.length : Nat) : Int) / 7 = r2.length := by omega
    rw [ediv]
    by_cases hmany : 300 < r.length + r2.length
    · have ed : Vamati.doAdd ⟨r⟩ (r2.flatMap numbersOf) = (⟨r⟩, [-3]) := by unfold Vamati.doAdd; rw [he]; exact if_pos hmany
      rw [ed] at k
      rw [if_pos (by omega)]
      exact ⟨one_le, fun p hp => k.plain s1 hrow hp⟩
    · have ed : Vamati.doAdd ⟨r⟩ (r2.flatMap numbersOf) = (⟨r ++ r2⟩, [0]) := by unfold Vamati.doAdd; rw [he]; exact if_neg hmany
      rw [ed] at k
      rw [if_neg (by omega)]
      refine ⟨.inl ⟨rfl, _, SqL.of (s1 _ _ hx)⟩, d, r2, rfl, s1.seq hd, by omega, fun H2 c s2 hc ⟨ys, hy, hr2⟩ => ?_⟩
      have hx2 := s2 _ _ (s1 _ _ hx)
      refine ⟨_, rfl, _, hx2, _, hy, by rw [hr.1, hr2.1, sizeLine_eq]; omega, one_le, fun p hp => ?_⟩
      have s12 := s1.trans s2
      have kk : But l H2 (upd H2 l (.lst (xs ++ ys))) := but_set
      exact k.fin (But.trans (Same.but s12) kk) upd_same (((hr.same s12).append hr2).but kk hx2) hp
def sp_put (K : PySem.W.Frag) (t : Adr) : Sp := fun vs H Q _ => ∃ (l d : Addr) (i : Int) (r : Row) (ns : List Int), vs = [.ref l, .int i, .ref d] ∧ RowAt K H l r ∧ SqL K H d (nv ns) ∧ d ≠ l ∧ r.length ≤ 300 ∧ ns.length ≤ 17000 ∧ Does K H l (Vamati.doPut ⟨r⟩ i ns) Q
def rd_put (K : PySem.W.Frag) (t : Adr) : TS :=
  (tSeq (tIfS (tNot (tTest (tChain (rI0 fun i j => .bl (decide (i ≤ j))) (rI0 fun i j => .bl (decide (i ≤ j))) (tC (.int 0)) (tVar 1) (tCB (rLen K) (tCons (tVar 0) tNil)))))
    (tRet (tLst (tCons (tC (.int (-5))) tNil)))
    tNext)
  (tSeq (tAsg (tCall (sp_item_refusal K t) [] E0 (tCons (tVar 2) tNil)) (gName 3))
  (tSeq (tIfS (tTest (tOp rNe (tVar 3) (tC (.int (0)))))
    (tRet (tLst (tCons (tVar 3) tNil)))
    tNext)
  (tSeq (tIfS (tTest (tOp (rI0 fun i j => .bl (decide (j ≤ i))) (tCB (rLen K) (tCons (tVar 0) tNil)) (tC (.int (300)))))
    (tRet (tLst (tCons (tC (.int (-3))) tNil)))
    tNext)
  (tSeq (tDrop (tBM K "list" rInsert (tVar 0) (tCons (tVar 1) (tCons (tCB (rTupleOf K) (tCons (tVar 2) tNil)) tNil))))
  (tRet (tLst (tCons (tC (.int (0))) tNil))))))))
theorem place_iff (n : Nat) (i : Int) : Vamati.isPlace n i = true ↔ 0 ≤ i ∧ i < n := by
  unfold Vamati.isPlace; rw [Bool.and_eq_true, decide_eq_true_eq, decide_eq_true_eq]
theorem place_not {n : Nat} {i : Int} (h : ¬ (0 ≤ i ∧ i < n)) : Vamati.isPlace n i = false := by
  rw [← Bool.not_eq_true, place_iff]; exact h
theorem atPlace_no {st : Vamati.State} {n : Nat} {i : Int} {l : List Int} {f : Nat → Item → Vamati.State × Vamati.Answer} (h : ¬ (0 ≤ i ∧ i < n)) : Vamati.atPlace st n i l f = (st, [-5]) := by
  unfold Vamati.atPlace; rw [if_pos (place_not h)]
theorem atPlace_err {st : Vamati.State} {n : Nat} {i : Int} {l : List Int} {f : Nat → Item → Vamati.State × Vamati.Answer} {e : Int} (h : 0 ≤ i ∧ i < n) (he : Vamati.readItem l = .error e) : Vamati.atPlace st n i l f = (st, [e]) := by
  unfold Vamati.atPlace; rw [if_neg (by rw [(place_iff n i).mpr h]; decide), he]
theorem atPlace_ok {st : Vamati.State} {n : Nat} {i : Int} {l : List Int} {f : Nat → Item → Vamati.State × Vamati.Answer} {a : Item} (h : 0 ≤ i ∧ i < n) (he : Vamati.readItem l = .ok a) : Vamati.atPlace st n i l f = f i.toNat a := by
  unfold Vamati.atPlace; rw [if_neg (by rw [(place_iff n i).mpr h]; decide), he]
theorem RowIs.take {K : PySem.W.Frag} {H : Hp} {xs : List V} {r : Row} (h : RowIs K H xs r) (n : Nat) : RowIs K H (xs.take n) (r.take n) := by
  refine ⟨by simp [h.1], fun j y b hy hb => ?_⟩
  rw [List.getElem?_take] at hy hb
  split at hy
  · rw [if_pos (by assumption)] at hb; exact h.2 j y b hy hb
  · cases hy
theorem RowIs.drop {K : PySem.W.Frag} {H : Hp} {xs : List V} {r : Row} (h : RowIs K H xs r) (n : Nat) : RowIs K H (xs.drop n) (r.drop n) := by
  refine ⟨by simp [h.1], fun j y b hy hb => ?_⟩
  rw [List.getElem?_drop] at hy hb
  exact h.2 _ y b hy hb
theorem RowIs.cons {K : PySem.W.Frag} {H : Hp} {xs : List V} {r : Row} {x : V} {a : Item} (h : RowIs K H xs r) (hx : ItAt K H x a) : RowIs K H (x :: xs) (a :: r) := by
  refine ⟨by simp [h.1], fun j y b hy hb => ?_⟩
  cases j with
  | zero =>
    have e1 : x = y := by simpa using hy
    have e2 : a = b := by simpa using hb
    subst e1 e2; exact hx
  | succ j => exact h.2 j y b (by simpa using hy) (by simpa using hb)
theorem rdok_put {K : PySem.W.Frag} {t : Adr} (T : Tx K t) {vs : List V} {H : Hp} {Q : VK} {E : XK} (h : sp_put K t vs H Q E) :
    rd_put K t { nx := fun _ H' => Q .non H', rt := Q } (L2.start ["boxes", "i", "numbers", "refusal"] vs) H := by
  obtain ⟨l, d, i, r, ns, rfl, hrow, hd, hdl, hn, hm, k⟩ := h
  obtain ⟨xs, hx, hr⟩ := id hrow
  unfold rd_put
  walk_at "rd"
  have no : ¬ (0 ≤ i ∧ i < (r.length + 1 : Nat)) → 1 ≤ sizeLine ∧ ∀ p, H p = none → Q (V.ref p) (upd H p (.lst [V.int (-5)])) := fun hc => by
    have ed : Vamati.doPut ⟨r⟩ i ns = (⟨r⟩, [-5]) := atPlace_no hc
    rw [ed] at k
    exact ⟨one_le, fun p hp => k.plain (Same.refl H) hrow hp⟩
  by_cases h0 : 0 ≤ i
  · rw [if_pos h0]
    refine ⟨_, .inl (SqL.of hx), ?_⟩
    rw [hr.1]
    by_cases h1 : i ≤ r.length
    · rw [if_neg (by simp [h1])]
      have hp : 0 ≤ i ∧ i < (r.length + 1 : Nat) := by omega
      obtain ⟨j, rfl⟩ : ∃ j : Nat, i = j := ⟨i.toNat, by omega⟩
      refine ⟨d, ns, rfl, hd, hm, fun H1 s1 => ?_⟩
      rcases readItem_cases ns with ⟨e, he, hneg⟩ | ⟨a, he, rfl, hg⟩
      · have hz : ¬ (e = 0) := by omega
        have ed : Vamati.doPut ⟨r⟩ j ns = (⟨r⟩, [e]) := atPlace_err hp he
        rw [ed] at k
        simp only [he, rf]
        walk_at "rd"
        rw [if_pos hz]
        exact ⟨one_le, fun p hp => k.plain s1 hrow hp⟩
      · have ed : Vamati.doPut ⟨r⟩ j (numbersOf a) = if Vamati.MOSTITEMS ≤ r.length then (⟨r⟩, [-3]) else (⟨r.take j ++ (a :: r.drop j)⟩, [0]) := atPlace_ok hp he
        rw [ed] at k
        simp only [he, rf]
        walk_at "rd"
        rw [if_neg (by simp)]
        have hx1 := s1 _ _ hx
        refine ⟨_, .inl (SqL.of hx1), ?_⟩
        rw [hr.1]
        by_cases hmany : 300 ≤ r.length
        · rw [if_pos (show Vamati.MOSTITEMS ≤ r.length from hmany)] at k
          rw [if_pos (by omega)]
          exact ⟨one_le, fun p hp => k.plain s1 hrow hp⟩
        · rw [if_neg (show ¬ Vamati.MOSTITEMS ≤ r.length from hmany)] at k
          rw [if_neg (by omega)]
          refine ⟨.inl ⟨rfl, _, SqL.of hx1⟩, _, .inl ⟨s1.seq hd, fun q hq => ?_⟩⟩
          have s2 := same_new (o := .tup (nv (numbersOf a))) hq
          have hx2 := s2 _ _ hx1
          refine ⟨_, _, _, ⟨rfl, rfl⟩, hx2, by rw [hr.1]; omega, by rw [hr.1, sizeLine_eq]; omega, one_le, fun p hp => ?_⟩
          have kk : But l (upd H1 q (.tup (nv (numbersOf a)))) (upd (upd H1 q (.tup (nv (numbersOf a)))) l (.lst (xs.take j ++ V.ref q :: xs.drop j))) := but_set
          have hr2 := hr.same (s1.trans s2)
          exact k.fin (But.trans (Same.but (s1.trans s2)) kk) upd_same (((hr2.take j).append ((hr2.drop j).cons ⟨q, rfl, SqT.of upd_same⟩)).but kk hx2) hp
    · rw [if_pos h1]
      exact no (by omega)
  · rw [if_neg h0, if_pos trivial]
    exact no (by omega)
def sp_take (K : PySem.W.Frag) (t : Adr) : Sp := fun vs H Q _ => ∃ (l : Addr) (i : Int) (r : Row), vs = [.ref l, .int i] ∧ RowAt K H l r ∧ r.length ≤ 300 ∧ Does K H l (Vamati.step ⟨r⟩ (.take i)) Q
def rd_take (K : PySem.W.Frag) (t : Adr) : TS :=
  (tSeq (tIfS (tNot (tTest (tChain (rI0 fun i j => .bl (decide (i ≤ j))) (rI0 fun i j => .bl (decide (i < j))) (tC (.int 0)) (tVar 1) (tCB (rLen K) (tCons (tVar 0) tNil)))))
    (tRet (tLst (tCons (tC (.int (-5))) tNil)))
    tNext)
  (tSeq (tDrop (tBM K "list" rPopAt (tVar 0) (tCons (tVar 1) tNil)))
  (tRet (tLst (tCons (tC (.int (0))) tNil)))))
theorem getElem?_eraseIdx' {α : Type} (l : List α) (i j : Nat) : (l.eraseIdx i)[j]? = if j < i then l[j]? else l[j + 1]? := List.getElem?_eraseIdx ..
theorem RowIs.erase {K : PySem.W.Frag} {H : Hp} {xs : List V} {r : Row} (h : RowIs K H xs r) {n : Nat} (hn : n < r.length) : RowIs K H (xs.eraseIdx n) (r.eraseIdx n) := by
  have hl := h.1
  refine ⟨by rw [List.length_eraseIdx_of_lt (by omega), List.length_eraseIdx_of_lt hn, hl], fun j y b hy hb => ?_⟩
  rw [getElem?_eraseIdx'] at hy hb
  by_cases hj : j < n
  · rw [if_pos hj] at hy hb; exact h.2 j y b hy hb
  · rw [if_neg hj] at hy hb; exact h.2 _ y b hy hb
theorem rdok_take {K : PySem.W.Frag} {t : Adr} (T : Tx K t) {vs : List V} {H : Hp} {Q : VK} {E : XK} (h : sp_take K t vs H Q E) :
    rd_take K t { nx := fun _ H' => Q .non H', rt := Q } (L2.start ["boxes", "i"] vs) H := by
  obtain ⟨l, i, r, rfl, hrow, hn, k⟩ := h
  obtain ⟨xs, hx, hr⟩ := id hrow
  unfold rd_take
  walk_at "rd"
  have no : ¬ (0 ≤ i ∧ i < r.length) → 1 ≤ sizeLine ∧ ∀ p, H p = none → Q (V.ref p) (upd H p (.lst [V.int (-5)])) := fun hc => by
    have ed : Vamati.step ⟨r⟩ (.take i) = (⟨r⟩, [-5]) := if_pos (place_not hc)
    rw [ed] at k
    exact ⟨one_le, fun p hp => k.plain (Same.refl H) hrow hp⟩
  by_cases h0 : 0 ≤ i
  · rw [if_pos h0]
    refine ⟨_, .inl (SqL.of hx), ?_⟩
    rw [hr.1]
    by_cases h1 : i < r.length
    · rw [if_neg (by simp [h1])]
      obtain ⟨j, rfl⟩ : ∃ j : Nat, i = j := ⟨i.toNat, by omega⟩
      have hj : j < r.length := by omega
      have ed : Vamati.step ⟨r⟩ (.take j) = (⟨r.eraseIdx j⟩, [0]) := if_neg (by rw [(place_iff r.length j).mpr ⟨h0, h1⟩]; decide)
      rw [ed] at k
      have hs : seqIndex? (j : Int) xs.length = some j := by
        unfold seqIndex?
        have := hr.1
        simp only
        rw [if_neg (show ¬ (j : Int) < 0 by omega), if_pos (by rw [Bool.and_eq_true, decide_eq_true_eq, decide_eq_true_eq]; omega)]
        simp
      refine ⟨.inl ⟨rfl, _, SqL.of hx⟩, _, hx, by omega, by omega, j, hs, xs[j]'(by rw [hr.1]; exact hj), List.getElem?_eq_getElem _, one_le, fun p hp => ?_⟩
      have kk : But l H (upd H l (.lst (xs.eraseIdx j))) := but_set
      exact k.fin kk upd_same ((hr.erase hj).but kk hx) hp
    · rw [if_pos h1]
      exact no (by omega)
  · rw [if_neg h0, if_pos trivial]
    exact no (by omega)
def sp_change (K : PySem.W.Frag) (t : Adr) : Sp := fun vs H Q _ => ∃ (l d : Addr) (i : Int) (r : Row) (ns : List Int), vs = [.ref l, .int i, .ref d] ∧ RowAt K H l r ∧ SqL K H d (nv ns) ∧ d ≠ l ∧ r.length ≤ 300 ∧ ns.length ≤ 17000 ∧ Does K H l (Vamati.step ⟨r⟩ (.change i ns)) Q
def rd_change (K : PySem.W.Frag) (t : Adr) : TS :=
  (tSeq (tIfS (tNot (tTest (tChain (rI0 fun i j => .bl (decide (i ≤ j))) (rI0 fun i j => .bl (decide (i < j))) (tC (.int 0)) (tVar 1) (tCB (rLen K) (tCons (tVar 0) tNil)))))
    (tRet (tLst (tCons (tC (.int (-5))) tNil)))
    tNext)
  (tSeq (tAsg (tCall (sp_item_refusal K t) [] E0 (tCons (tVar 2) tNil)) (gName 3))
  (tSeq (tIfS (tTest (tOp rNe (tVar 3) (tC (.int (0)))))
    (tRet (tLst (tCons (tVar 3) tNil)))
    tNext)
  (tSeq (tAsg (tCB (rTupleOf K) (tCons (tVar 2) tNil)) (gSub (tVar 0) (tVar 1) rSetL))
  (tRet (tLst (tCons (tC (.int (0))) tNil)))))))
theorem RowIs.set {K : PySem.W.Frag} {H : Hp} {xs : List V} {r : Row} {x : V} {a : Item} (h : RowIs K H xs r) (n : Nat) (hx : ItAt K H x a) : RowIs K H (xs.set n x) (r.set n a) := by
  refine ⟨by simp [h.1], fun j y b hy hb => ?_⟩
  rw [List.getElem?_set] at hy hb
  by_cases hj : n = j
  · rw [if_pos hj] at hy hb
    split at hy
    · split at hb
      · cases hy; cases hb; exact hx
      · cases hb
    · cases hy
  · rw [if_neg hj] at hy hb; exact h.2 j y b hy hb
theorem ixN_nat {n j : Nat} (h : j < n) : ixN n (j : Int) = some j := by
  unfold ixN
  rw [if_pos (by omega), if_pos (by omega)]
  simp
theorem rdok_change {K : PySem.W.Frag} {t : Adr} (T : Tx K t) {vs : List V} {H : Hp} {Q : VK} {E : XK} (h : sp_change K t vs H Q E) :
    rd_change K t { nx := fun _ H' => Q .non H', rt := Q } (L2.start ["boxes", "i", "numbers", "refusal"] vs) H := by
  obtain ⟨l, d, i, r, ns, rfl, hrow, hd, hdl, hn, hm, k⟩ := h
  obtain ⟨xs, hx, hr⟩ := id hrow
  unfold rd_change
  walk_at "rd"
  have no : ¬ (0 ≤ i ∧ i < r.length) → 1 ≤ sizeLine ∧ ∀ p, H p = none → Q (V.ref p) (upd H p (.lst [V.int (-5)])) := fun hc => by
    have ed : Vamati.step ⟨r⟩ (.change i ns) = (⟨r⟩, [-5]) := show Vamati.atPlace ⟨r⟩ r.length _ _ (fun k a => (⟨r.set k a⟩, [0])) = _ from atPlace_no hc
    rw [ed] at k
    exact ⟨one_le, fun p hp => k.plain (Same.refl H) hrow hp⟩
  by_cases h0 : 0 ≤ i
  · rw [if_pos h0]
    refine ⟨_, .inl (SqL.of hx), ?_⟩
    rw [hr.1]
    by_cases h1 : i < r.length
    · rw [if_neg (by simp [h1])]
      have hp : 0 ≤ i ∧ i < r.length := ⟨h0, h1⟩
      obtain ⟨j, rfl⟩ : ∃ j : Nat, i = j := ⟨i.toNat, by omega⟩
      have hj : j < r.length := by omega
      refine ⟨d, ns, rfl, hd, hm, fun H1 s1 => ?_⟩
      rcases readItem_cases ns with ⟨e, he, hneg⟩ | ⟨a, he, rfl, hg⟩
      · have hz : ¬ (e = 0) := by omega
        have ed : Vamati.step ⟨r⟩ (.change j ns) = (⟨r⟩, [e]) := show Vamati.atPlace ⟨r⟩ r.length _ _ (fun k a => (⟨r.set k a⟩, [0])) = _ from atPlace_err hp he
        rw [ed] at k
        simp only [he, rf]
        walk_at "rd"
        rw [if_pos hz]
        exact ⟨one_le, fun p hp => k.plain s1 hrow hp⟩
      · have ed : Vamati.step ⟨r⟩ (.change j (numbersOf a)) = (⟨r.set j a⟩, [0]) := show Vamati.atPlace ⟨r⟩ r.length _ _ (fun k a => (⟨r.set k a⟩, [0])) = _ from atPlace_ok hp he
        rw [ed] at k
        simp only [he, rf]
        walk_at "rd"
        rw [if_neg (by simp)]
        have hx1 := s1 _ _ hx
        refine ⟨_, .inl ⟨s1.seq hd, fun q hq => ?_⟩⟩
        have s2 := same_new (o := .tup (nv (numbersOf a))) hq
        have hx2 := s2 _ _ hx1
        refine ⟨_, hx2, j, ixN_nat (by rw [hr.1]; exact hj), one_le, fun p hp => ?_⟩
        have kk : But l (upd H1 q (.tup (nv (numbersOf a)))) (upd (upd H1 q (.tup (nv (numbersOf a)))) l (.lst (xs.set j (V.ref q)))) := but_set
        have hr2 := hr.same (s1.trans s2)
        exact k.fin (But.trans (Same.but (s1.trans s2)) kk) upd_same ((hr2.set j ⟨q, rfl, SqT.of upd_same⟩).but kk hx2) hp
    · rw [if_pos h1]
      exact no (by omega)
  · rw [if_neg h0, if_pos trivial]
    exact no (by omega)
theorem allw_take {ns : List Int} {i : Nat} {a : Int} (p : Int → Bool) (ha : ns[i]? = some a) : (ns.take (i + 1)).all p = ((ns.take i).all p && p a) := by
  have hi : i < ns.length := (List.getElem?_eq_some_iff.mp ha).1
  rw [List.take_succ_eq_append_getElem hi, (List.getElem?_eq_some_iff.mp ha).2, List.all_append]
  simp
theorem allw_not {ns : List Int} {i : Nat} {p : Int → Bool} (h : (ns.take i).all p = false) : ns.all p = false := by
  rw [List.all_eq_false] at *
  obtain ⟨x, hx, q⟩ := h
  exact ⟨x, List.mem_of_mem_take hx, q⟩
def sp_row (K : PySem.W.Frag) (t : Adr) : Sp := fun vs H Q _ => ∃ (l : Addr) (r : Row), vs = [.ref l] ∧ RowAt K H l r ∧ r.length ≤ 300 ∧ ∀ H' q, Same H H' → H q = none → H' q = some (.lst (nv (0 :: r.flatMap numbersOf))) → Q (.ref q) H'
def rd_row (K : PySem.W.Frag) (t : Adr) : TS :=
  (tSeq (tAsg (tLst (tCons (tC (.int (0))) tNil)) (gName 1))
  (tSeq (tFor (iList K (tVar 0)) (gName 2)
    (tDrop (tBM K "list" (rExtendT K) (tVar 1) (tCons (tVar 2) tNil))))
  (tRet (tVar 1))))
theorem rdok_row {K : PySem.W.Frag} {t : Adr} (T : Tx K t) {vs : List V} {H : Hp} {Q : VK} {E : XK} (h : sp_row K t vs H Q E) :
    rd_row K t { nx := fun _ H' => Q .non H', rt := Q } (L2.start ["boxes", "found", "box"] vs) H := by
  obtain ⟨l, r, rfl, ⟨xs, hx, hr⟩, hn, k⟩ := h
  unfold rd_row
  walk_at "rd"
  refine ⟨one_le, fun q hq => ?_⟩
  have s0 := same_new (o := .lst [V.int 0]) hq
  refine for_l (a := l) (fun R h => ⟨_, rfl, h⟩) (SqL.of (s0 _ _ hx)) (fun i σ H2 => Same H H2 ∧ (∃ v, σ = [some (.ref l), some (.ref q), v]) ∧ H2 q = some (.lst (nv (0 :: (r.take i).flatMap numbersOf)))) ⟨s0, ⟨_, rfl⟩, upd_same⟩ (fun i σ H2 _ p => SqL.of (p.1 _ _ hx)) ?_ ?_
  · rintro i x σ H2 hxi ⟨hs, ⟨v, rfl⟩, hq2⟩
    have hi : i < r.length := by rw [← hr.1]; exact (List.getElem?_eq_some_iff.mp hxi).1
    have ha : r[i]? = some r[i] := List.getElem?_eq_getElem hi
    obtain ⟨p, rfl, hp⟩ := hr.2 i x _ hxi ha
    walk_at "rd"
    refine ⟨.inl ⟨rfl, _, SqL.of hq2⟩, _, _, _, _, rfl, rfl, hq2, Same.sqT hs hp, ?_, ?_, ?_⟩
    · rw [nv_len, nv_len]
      have := BL.flat_len (r.take i)
      rw [List.length_cons, this, List.length_take, sizeLine_eq]
      have e7 : (numbersOf r[i]).length = 7 := rfl
      omega
    · exact fun b o e => by rw [upd_ne (ne_of_none e hq)]; exact hs b o e
    · refine ⟨⟨_, rfl⟩, ?_⟩
      rw [upd_same, List.take_succ_eq_append_getElem hi, List.flatMap_append]
      unfold nv
      rw [← List.map_append]
      simp
  · rintro σ H2 ⟨hs, ⟨v, rfl⟩, hq2⟩
    walk_at "rd"
    rw [hr.1, List.take_length] at hq2
    exact k H2 q hs hq hq2
/-! ### edges -/
def efs (b s tb ts : Addr) : List (Str × V) := putF "tight_stops" (.ref ts) (putF "tight_begins" (.ref tb) (putF "stops" (.ref s) (putF "begins" (.ref b) [])))
theorem efs_begins (b s tb ts : Addr) : (efs b s tb ts).lookup ("begins" : Str) = some (.ref b) := by
  unfold efs
  rw [lookup_putF, if_neg (by decide +kernel), lookup_putF, if_neg (by decide +kernel), lookup_putF, if_neg (by decide +kernel), lookup_putF, if_pos rfl]
theorem efs_stops (b s tb ts : Addr) : (efs b s tb ts).lookup ("stops" : Str) = some (.ref s) := by
  unfold efs
  rw [lookup_putF, if_neg (by decide +kernel), lookup_putF, if_neg (by decide +kernel), lookup_putF, if_pos rfl]
theorem efs_tbegins (b s tb ts : Addr) : (efs b s tb ts).lookup ("tight_begins" : Str) = some (.ref tb) := by
  unfold efs
  rw [lookup_putF, if_neg (by decide +kernel), lookup_putF, if_pos rfl]
theorem efs_tstops (b s tb ts : Addr) : (efs b s tb ts).lookup ("tight_stops" : Str) = some (.ref ts) := by
  unfold efs
  rw [lookup_putF, if_pos rfl]
def upto (f : Nat → Int) (n : Nat) : List Int := (List.range n).map f
theorem upto_succ (f : Nat → Int) (n : Nat) : upto f (n + 1) = upto f n ++ [f n] := by unfold upto; rw [List.range_succ, List.map_append]; rfl
theorem upto_len (f : Nat → Int) (n : Nat) : (upto f n).length = n := by unfold upto; simp
theorem upto_get (f : Nat → Int) {n i : Nat} (h : i < n) : (upto f n)[i]? = some (f i) := by unfold upto; rw [List.getElem?_map, List.getElem?_range h]; rfl
theorem nv_snoc (l : List Int) (x : Int) : nv l ++ [V.int x] = nv (l ++ [x]) := by unfold nv; rw [List.map_append]; rfl
structure ES (t : Adr) (H H2 : Hp) (p dx b s tb ts : Addr) (B S TB TS : List Int) : Prop where
  ip : H2 p = some (.ins t.Edges dx (efs b s tb ts))
  hb : H2 b = some (.lst (nv B))
  hs : H2 s = some (.lst (nv S))
  htb : H2 tb = some (.lst (nv TB))
  hts : H2 ts = some (.lst (nv TS))
  base : ∀ c o, H c = some o → c ≠ p → H2 c = some o
structure ED (H : Hp) (b s tb ts : Addr) : Prop where
  bs : b ≠ s
  btb : b ≠ tb
  bts : b ≠ ts
  stb : s ≠ tb
  sts : s ≠ ts
  tbts : tb ≠ ts
  nb : H b = none
  ns : H s = none
  ntb : H tb = none
  nts : H ts = none
theorem ES.addB {t : Adr} {H H2 : Hp} {p dx b s tb ts : Addr} {B S TB TS : List Int} (e : ES t H H2 p dx b s tb ts B S TB TS) (d : ED H b s tb ts) (x : Int) : ES t H (upd H2 b (.lst (nv B ++ [V.int x]))) p dx b s tb ts (B ++ [x]) S TB TS :=
  ⟨by rw [upd_ne (ne_of e.ip e.hb (by intro z; cases z))]; exact e.ip, by rw [upd_same, nv_snoc], by rw [upd_ne d.bs.symm]; exact e.hs, by rw [upd_ne d.btb.symm]; exact e.htb, by rw [upd_ne d.bts.symm]; exact e.hts,
    fun c o h hc => by rw [upd_ne (ne_of_none h d.nb)]; exact e.base c o h hc⟩
theorem ES.addS {t : Adr} {H H2 : Hp} {p dx b s tb ts : Addr} {B S TB TS : List Int} (e : ES t H H2 p dx b s tb ts B S TB TS) (d : ED H b s tb ts) (x : Int) : ES t H (upd H2 s (.lst (nv S ++ [V.int x]))) p dx b s tb ts B (S ++ [x]) TB TS :=
  ⟨by rw [upd_ne (ne_of e.ip e.hs (by intro z; cases z))]; exact e.ip, by rw [upd_ne d.bs]; exact e.hb, by rw [upd_same, nv_snoc], by rw [upd_ne d.stb.symm]; exact e.htb, by rw [upd_ne d.sts.symm]; exact e.hts,
    fun c o h hc => by rw [upd_ne (ne_of_none h d.ns)]; exact e.base c o h hc⟩
theorem ES.addTB {t : Adr} {H H2 : Hp} {p dx b s tb ts : Addr} {B S TB TS : List Int} (e : ES t H H2 p dx b s tb ts B S TB TS) (d : ED H b s tb ts) (x : Int) : ES t H (upd H2 tb (.lst (nv TB ++ [V.int x]))) p dx b s tb ts B S (TB ++ [x]) TS :=
  ⟨by rw [upd_ne (ne_of e.ip e.htb (by intro z; cases z))]; exact e.ip, by rw [upd_ne d.btb]; exact e.hb, by rw [upd_ne d.stb]; exact e.hs, by rw [upd_same, nv_snoc], by rw [upd_ne d.tbts.symm]; exact e.hts,
    fun c o h hc => by rw [upd_ne (ne_of_none h d.ntb)]; exact e.base c o h hc⟩
theorem ES.addTS {t : Adr} {H H2 : Hp} {p dx b s tb ts : Addr} {B S TB TS : List Int} (e : ES t H H2 p dx b s tb ts B S TB TS) (d : ED H b s tb ts) (x : Int) : ES t H (upd H2 ts (.lst (nv TS ++ [V.int x]))) p dx b s tb ts B S TB (TS ++ [x]) :=
  ⟨by rw [upd_ne (ne_of e.ip e.hts (by intro z; cases z))]; exact e.ip, by rw [upd_ne d.bts]; exact e.hb, by rw [upd_ne d.sts]; exact e.hs, by rw [upd_ne d.tbts]; exact e.htb, by rw [upd_same, nv_snoc],
    fun c o h hc => by rw [upd_ne (ne_of_none h d.nts)]; exact e.base c o h hc⟩
/-- an Edges of the row r stands at p -/
def EdgesAt (t : Adr) (H : Hp) (p : Addr) (r : Row) : Prop := ∃ dx b s tb ts, H p = some (.ins t.Edges dx (efs b s tb ts)) ∧ H b = some (.lst (nv (upto (BL.beg r) r.length))) ∧ H s = some (.lst (nv (upto (BL.stp r) r.length))) ∧
  H tb = some (.lst (nv (upto (BL.tbeg r) r.length))) ∧ H ts = some (.lst (nv (upto (BL.tstp r) r.length)))
theorem EdgesAt.same {t : Adr} {H H' : Hp} {p : Addr} {r : Row} (s : Same H H') (h : EdgesAt t H p r) : EdgesAt t H' p r := by
  obtain ⟨dx, b, q, tb, ts, h1, h2, h3, h4, h5⟩ := h
  exact ⟨dx, b, q, tb, ts, s _ _ h1, s _ _ h2, s _ _ h3, s _ _ h4, s _ _ h5⟩
def sp_Edges (K : PySem.W.Frag) (t : Adr) : Sp := fun vs H Q _ => ∃ (p l dx : Addr) (r : Row), vs = [.ref p, .ref l] ∧ H p = some (.ins t.Edges dx []) ∧ RowAt K H l r ∧ r.length ≤ 300 ∧ ∀ H', EdgesAt t H' p r → (∀ b o, H b = some o → b ≠ p → H' b = some o) → Q .non H'
def rd_Edges_init (K : PySem.W.Frag) (t : Adr) : TS :=
  (tSeq (sFld K (tVar 0) (tLst tNil) "begins")
  (tSeq (sFld K (tVar 0) (tLst tNil) "stops")
  (tSeq (sFld K (tVar 0) (tLst tNil) "tight_begins")
  (tSeq (sFld K (tVar 0) (tLst tNil) "tight_stops")
  (tSeq (tAsg (tC (.int 0)) (gName 2))
  (tSeq (tAsg (tC (.int 0)) (gName 3))
  (tFor (iList K (tVar 1)) (gName 4)
    (tSeq (tDrop (tBM K "list" rAppend (tFld K (tVar 0) "begins") (tCons (tVar 2) tNil)))
    (tSeq (tDrop (tBM K "list" rAppend (tFld K (tVar 0) "tight_begins") (tCons (tVar 3) tNil)))
    (tSeq (tAug 2 (tOp (rIxT K) (tVar 4) (tC (.int (0)))) (rI0 fun i j => .int (i + j)))
    (tSeq (tAug 3 (tOp (rIxT K) (tVar 4) (tC (.int (0)))) (rI0 fun i j => .int (i + j)))
    (tSeq (tDrop (tBM K "list" rAppend (tFld K (tVar 0) "stops") (tCons (tVar 2) tNil)))
    (tSeq (tDrop (tBM K "list" rAppend (tFld K (tVar 0) "tight_stops") (tCons (tVar 3) tNil)))
    (tSeq (tAug 2 (tOp (rIxT K) (tVar 4) (tC (.int (3)))) (rI0 fun i j => .int (i + j)))
    (tAug 3 (tOp (rI0 fun i j => .int (i - j)) (tOp (rIxT K) (tVar 4) (tC (.int (3)))) (tOp (rIxT K) (tVar 4) (tC (.int (5))))) (rI0 fun i j => .int (i + j)))))))))))))))))
theorem base_sqT {K : PySem.W.Frag} {H H' : Hp} {p q C dx : Addr} {fs : List (Str × V)} {xs : List V} (k : ∀ c o, H c = some o → c ≠ p → H' c = some o) (hp : H p = some (.ins C dx fs)) (h : SqT K H q xs) : SqT K H' q xs := by
  rcases h with (h | ⟨o, h⟩) | h
  · exact .inl (.inl (k _ _ h (ne_of h hp (by intro z; cases z))))
  · exact .inl (.inr ⟨o, k _ _ h (ne_of h hp (by intro z; cases z))⟩)
  · exact .inr h
theorem putF_lt {f : Str} {v : V} {fs : List (Str × V)} {n : Nat} (h : fs.length < n) : (putF f v fs).length < n + 1 := by
  have := length_putF f v fs
  omega
theorem fld_new {K : PySem.W.Frag} {D : Ends} {σ : St} {H : Hp} {p C dx : Addr} {fs : List (Str × V)} {f : Str} (h0 : σ[0]? = some (some (.ref p))) (h : H p = some (.ins C dx fs)) (c : Cls K C) (n : NoAttr K C f) (hl : fs.length < 1000)
    (k : ∀ b, H b = none → D.nx σ (upd (upd H b (.lst [])) p (.ins C dx (putF f (.ref b) fs)))) : sFld K (tVar 0) (tLst tNil) f D σ H :=
  ⟨Nat.zero_le _, fun b hb => ⟨_, h0, p, C, dx, fs, rfl, by rw [upd_ne (ne_of_none h hb)]; exact h, c, n, hl, k b hb⟩⟩
/-- self.f.append(x) -/
theorem app_fld {K : PySem.W.Frag} {D : Ends} {σ : St} {H : Hp} {p C dx q : Addr} {fs : List (Str × V)} {f : Str} {i : Nat} {x : V} {ys : List V} (h0 : σ[0]? = some (some (.ref p))) (hi : σ[i]? = some (some x)) (h : H p = some (.ins C dx fs)) (c : Cls K C) (n : NoAttr K C f)
    (hf : fs.lookup f = some (.ref q)) (hq : H q = some (.lst ys)) (hl : ys.length < sizeLine) (k : D.nx σ (upd H q (.lst (ys ++ [x])))) : tDrop (tBM K "list" rAppend (tFld K (tVar 0) f) (tCons (tVar i) tNil)) D σ H :=
  ⟨_, h0, p, C, dx, fs, _, rfl, h, c, n, hf, .inl ⟨rfl, _, SqL.of hq⟩, _, hi, q, ys, x, rfl, rfl, hq, hl, k⟩
theorem rdok_Edges_init {K : PySem.W.Frag} {t : Adr} (T : Tx K t) {vs : List V} {H : Hp} {Q : VK} {E : XK} (h : sp_Edges K t vs H Q E) :
    rd_Edges_init K t { nx := fun _ H' => Q .non H', rt := Q } (L2.start ["self", "boxes", "edge", "tight_edge", "box"] vs) H := by
  obtain ⟨p, l, dx, r, rfl, hp, ⟨xs, hx, hr⟩, hn, k⟩ := h
  have hz : (sizeLine : Nat) = 16777216 := sizeLine_eq
  unfold rd_Edges_init
  refine fld_new (σ := L2.start ["self", "boxes", "edge", "tight_edge", "box"] [.ref p, .ref l]) rfl hp T.cls T.nbegins (by decide) fun b hb => ?_
  refine fld_new rfl upd_same T.cls T.nstops (putF_lt (n := 999) (by decide)) fun s hs => ?_
  refine fld_new rfl upd_same T.cls T.ntbegins (putF_lt (n := 999) (putF_lt (n := 998) (by decide))) fun tb htb => ?_
  refine fld_new rfl upd_same T.cls T.ntstops (putF_lt (n := 999) (putF_lt (n := 998) (putF_lt (n := 997) (by decide)))) fun ts hts => ?_
  have pb : b ≠ p := (ne_of_none hp hb).symm
  have ps : s ≠ p := (ne_of_none upd_same hs).symm
  have ptb : tb ≠ p := (ne_of_none upd_same htb).symm
  have pts : ts ≠ p := (ne_of_none upd_same hts).symm
  rw [upd_ne ps] at hs
  have bs : b ≠ s := ne_of_none upd_same hs
  rw [upd_ne bs.symm] at hs
  rw [upd_ne ptb] at htb
  have stb : s ≠ tb := ne_of_none upd_same htb
  rw [upd_ne stb.symm, upd_ne ptb] at htb
  have btb : b ≠ tb := ne_of_none upd_same htb
  rw [upd_ne btb.symm] at htb
  rw [upd_ne pts] at hts
  have tbts : tb ≠ ts := ne_of_none upd_same hts
  rw [upd_ne tbts.symm, upd_ne pts] at hts
  have sts : s ≠ ts := ne_of_none upd_same hts
  rw [upd_ne sts.symm, upd_ne pts] at hts
  have bts : b ≠ ts := ne_of_none upd_same hts
  rw [upd_ne bts.symm] at hts
  have d : ED H b s tb ts := ⟨bs, btb, bts, stb, sts, tbts, hb, hs, htb, hts⟩
  generalize hG : (upd (upd (upd (upd (upd (upd (upd (upd H b (.lst [])) p (.ins t.Edges dx (putF "begins" (.ref b) []))) s (.lst [])) p (.ins t.Edges dx (putF "stops" (.ref s) (putF "begins" (.ref b) [])))) tb (.lst [])) p
    (.ins t.Edges dx (putF "tight_begins" (.ref tb) (putF "stops" (.ref s) (putF "begins" (.ref b) []))))) ts (.lst [])) p (.ins t.Edges dx (putF "tight_stops" (.ref ts) (putF "tight_begins" (.ref tb) (putF "stops" (.ref s) (putF "begins" (.ref b) [])))))) = G
  have e0 : ES t H G p dx b s tb ts (upto (BL.beg r) 0) (upto (BL.stp r) 0) (upto (BL.tbeg r) 0) (upto (BL.tstp r) 0) := by
    subst hG
    refine ⟨upd_same, ?_, ?_, ?_, ?_, fun c o h hc => ?_⟩
    · rw [upd_ne pb, upd_ne bts, upd_ne pb, upd_ne btb, upd_ne pb, upd_ne bs, upd_ne pb]; exact upd_same
    · rw [upd_ne ps, upd_ne sts, upd_ne ps, upd_ne stb, upd_ne ps]; exact upd_same
    · rw [upd_ne ptb, upd_ne tbts, upd_ne ptb]; exact upd_same
    · rw [upd_ne pts]; exact upd_same
    · rw [upd_ne hc, upd_ne (ne_of_none h hts), upd_ne hc, upd_ne (ne_of_none h htb), upd_ne hc, upd_ne (ne_of_none h hs), upd_ne hc, upd_ne (ne_of_none h hb)]; exact h
  have lp : l ≠ p := ne_of hx hp (by intro z; cases z)
  clear hG
  walk_at "rd"
  refine for_l (a := l) (fun R h => ⟨_, rfl, h⟩) (SqL.of (e0.base _ _ hx lp)) (fun i σ H2 => ES t H H2 p dx b s tb ts (upto (BL.beg r) i) (upto (BL.stp r) i) (upto (BL.tbeg r) i) (upto (BL.tstp r) i) ∧ ∃ v, σ = [some (.ref p), some (.ref l), some (.int (BL.beg r i)), some (.int (BL.tbeg r i)), v])
    ⟨e0, _, rfl⟩ (fun i σ H2 _ q => SqL.of (q.1.base _ _ hx lp)) ?_ ?_
  · rintro i x σ H2 hxi ⟨e, v, rfl⟩
    have hi : i < r.length := by rw [← hr.1]; exact (List.getElem?_eq_some_iff.mp hxi).1
    obtain ⟨q, rfl, hq⟩ := hr.2 i x _ hxi (List.getElem?_eq_getElem hi)
    have tupAt : ∀ {H3 B S TB TS}, ES t H H3 p dx b s tb ts B S TB TS → SqT K H3 q (nv (numbersOf r[i])) := fun e3 => base_sqT e3.base hp hq
    refine app_fld rfl rfl e.ip T.cls T.nbegins (efs_begins ..) e.hb (by rw [nv_len, upto_len]; omega) ?_
    have e1 := e.addB d (BL.beg r i)
    rw [← upto_succ] at e1
    refine app_fld rfl rfl e1.ip T.cls T.ntbegins (efs_tbegins ..) e1.htb (by rw [nv_len, upto_len]; omega) ?_
    have e2 := e1.addTB d (BL.tbeg r i)
    rw [← upto_succ] at e2
    walk_at "rd"
    refine ⟨_, tupAt e2, .int r[i].width, rfl, _, rfl, _, tupAt e2, .int r[i].width, rfl, _, rfl, ?_⟩
    have w1 : BL.beg r i + r[i].width = BL.stp r i := by unfold BL.stp; rw [BL.wid_eq hi]
    have w2 : BL.tbeg r i + r[i].width = BL.tstp r i := by unfold BL.tstp; rw [BL.wid_eq hi]
    rw [w1, w2]
    have e3 := e2.addS d (BL.stp r i)
    rw [← upto_succ] at e3
    have e4 := e3.addTS d (BL.tstp r i)
    rw [← upto_succ] at e4
    refine ⟨_, rfl, p, t.Edges, dx, _, _, rfl, e2.ip, T.cls, T.nstops, efs_stops .., .inl ⟨rfl, _, SqL.of e2.hs⟩, s, rfl, _, e2.hs, by rw [nv_len, upto_len]; omega, ?_⟩
    refine ⟨_, rfl, p, t.Edges, dx, _, _, rfl, e3.ip, T.cls, T.ntstops, efs_tstops .., .inl ⟨rfl, _, SqL.of e3.hts⟩, ts, rfl, _, e3.hts, by rw [nv_len, upto_len]; omega, ?_⟩
    refine ⟨_, tupAt e4, .int r[i].space, rfl, _, rfl, _, tupAt e4, .int r[i].space, rfl, _, tupAt e4, .int r[i].shrink, rfl, _, rfl, _, rfl, e4, ?_⟩
    have w3 : BL.stp r i + r[i].space = BL.beg r (i + 1) := by rw [BL.step_beg hi, ← w1]; omega
    have w4 : BL.tstp r i + (r[i].space - r[i].shrink) = BL.tbeg r (i + 1) := by rw [BL.step_tbeg hi, ← w2]; omega
    rw [w3, w4]
    exact ⟨rfl, rfl, _, rfl⟩
  · rintro σ H2 ⟨e, v, rfl⟩
    rw [hr.1] at e
    exact k H2 ⟨dx, b, s, tb, ts, e.ip, e.hb, e.hs, e.htb, e.hts⟩ e.base
/-! ### the best line -/
def ends_ (r : Row) (i : Nat) : List Int := (BL.endsFrom r i).map Int.ofNat
structure Rests (r : Row) (m : Measure) (i : Nat) (zs : List Int) : Prop where
  len : zs.length = r.length
  at_ : ∀ j ∈ BL.endsFrom r i, zs[j]? = some (BL.rst r m j)
def sp_best_line (K : PySem.W.Frag) (t : Adr) : Sp := fun vs H Q _ => ∃ (p e q : Addr) (i : Nat) (r : Row) (m : Measure) (zs : List Int), vs = [.ref p, .int i, .int (Vamati.roomOf m i), .ref e, .ref q] ∧ EdgesAt t H p r ∧ H e = some (.lst (nv (ends_ r i))) ∧
  H q = some (.lst (nv zs)) ∧ Rests r m i zs ∧ i < r.length ∧ BL.Good r ∧ BL.GoodM m ∧ ∀ H' d, Same H H' → H d = none → H' d = some (.tup [.int (BL.wt (BL.B r m i).worth), .int (BL.nxt r m i)]) → Q (.ref d) H'
def rd_best_line (K : PySem.W.Frag) (t : Adr) : TS :=
  (tSeq (tAsg (tFld K (tVar 0) "stops") (gName 5))
  (tSeq (tAsg (tFld K (tVar 0) "tight_stops") (gName 6))
  (tSeq (tAsg (tOp (rI0 fun i j => .int (i + j)) (tOp (rIxL K) (tFld K (tVar 0) "begins") (tVar 1)) (tVar 2)) (gName 7))
  (tSeq (tAsg (tOp (rI0 fun i j => .int (i + j)) (tOp (rIxL K) (tFld K (tVar 0) "tight_begins") (tVar 1)) (tVar 2)) (gName 8))
  (tSeq (tIfS (tTest (tOp (rI0 fun i j => .bl (decide (i ≤ j))) (tOp (rIxL K) (tVar 5) (tUn (rU fun i => .int (-i)) (tC (.int 1)))) (tVar 7)))
    (tRet (tTup (tCons (tC (.int (1))) (tCons (tOp (rI0 fun i j => .int (i - j)) (tCB (rLen K) (tCons (tVar 5) tNil)) (tC (.int 1))) tNil))))
    tNext)
  (tSeq (tAsg (tC (.int (1000000000000000000000000000000000000000000))) (gName 9))
  (tSeq (tAsg (tVar 1) (gName 10))
  (tSeq (tFor (iList K (tVar 3)) (gName 11)
    (tSeq (tAsg (tOp (rI0 fun i j => .int (i - j)) (tVar 7) (tOp (rIxL K) (tVar 5) (tVar 11))) (gName 12))
    (tSeq (tAsg (tOp (rI CMul fun i j => .int (i * j)) (tOp (rI CMul fun i j => .int (i * j)) (tVar 12) (tVar 12)) (tC (.int (1000)))) (gName 13))
    (tSeq (tIfS (tTest (tOp (rI0 fun i j => .bl (decide (i < j))) (tVar 12) (tC (.int 0))))
      (tSeq (tAsg (tOp (rI0 fun i j => .int (i - j)) (tOp (rIxL K) (tVar 6) (tVar 11)) (tVar 8)) (gName 14))
      (tSeq (tIfS (tTest (tOp (rI0 fun i j => .bl (decide (j < i))) (tVar 14) (tC (.int 0))))
        (tAug 13 (tOp (rI CMul fun i j => .int (i * j)) (tVar 14) (tC (.int (1000000000000000000000000)))) (rI0 fun i j => .int (i + j)))
        tNext)
      (tIfS (tTest (tOp (rI0 fun i j => .bl (decide (j < i))) (tVar 13) (tVar 9)))
        tBreak
        tNext)))
      tNext)
    (tSeq (tAug 13 (tOp (rIxL K) (tVar 4) (tVar 11)) (rI0 fun i j => .int (i + j)))
    (tIfS (tTest (tOp (rI0 fun i j => .bl (decide (i < j))) (tVar 13) (tVar 9)))
      (tSeq (tAsg (tVar 13) (gName 9))
      (tAsg (tVar 11) (gName 10)))
      tNext))))))
  (tRet (tTup (tCons (tVar 9) (tCons (tVar 10) tNil))))))))))))
theorem atI_neg1 {xs : List V} (h : 0 < xs.length) : atI xs (-1) = xs[xs.length - 1]? := by
  unfold atI ixN
  rw [if_neg (by omega), if_pos (by omega)]
  have e : (-1 + (xs.length : Int)).toNat = xs.length - 1 := by omega
  rw [e]; rfl
abbrev HEAVY : Int := 1000000000000000000000000000000000000000000
def scan (r : Row) (m : Measure) (i : Nat) := BL.scanB (fun j => decide (BL.slk r m i j < 0)) (BL.vw r m i) (fun j => BL.vw r m i j + BL.rst r m j)
theorem scan_cons (r : Row) (m : Measure) (i j : Nat) (es : List Nat) (least : Int) (be : Nat) : scan r m i (j :: es) least be = if BL.slk r m i j < 0 ∧ least < BL.vw r m i j then (least, be) else if BL.vw r m i j + BL.rst r m j < least then scan r m i es (BL.vw r m i j + BL.rst r m j) j else scan r m i es least be := by
  unfold scan
  rw [BL.scanB]
  simp only [decide_eq_true_eq, gt_iff_lt]
def BLW (H : Hp) (p e q s ts : Addr) (r : Row) (m : Measure) (i n : Nat) (σ : St) (H2 : Hp) : Prop := H2 = H ∧ ∃ (least : Int) (be : Nat) (v1 v2 v3 v4 : Option V), σ = [some (V.ref p), some (V.int ↑i), some (V.int (Vamati.roomOf m i)), some (V.ref e), some (V.ref q),
  some (V.ref s), some (V.ref ts), some (V.int (BL.beg r i + Vamati.roomOf m i)), some (V.int (BL.tbeg r i + Vamati.roomOf m i)), some (V.int least), some (V.int be), v1, v2, v3, v4] ∧ scan r m i ((BL.endsFrom r i).drop n) least be = scan r m i (BL.endsFrom r i) HEAVY i
def rd_bl_tail (K : PySem.W.Frag) : TS :=
  (tSeq (tAug 13 (tOp (rIxL K) (tVar 4) (tVar 11)) (rI0 fun i j => .int (i + j)))
  (tIfS (tTest (tOp (rI0 fun i j => .bl (decide (i < j))) (tVar 13) (tVar 9)))
    (tSeq (tAsg (tVar 13) (gName 9))
    (tAsg (tVar 11) (gName 10)))
    tNext))
theorem bl_tail {K : PySem.W.Frag} {D : Ends} {H : Hp} {p e q s ts : Addr} {r : Row} {m : Measure} {i n j be : Nat} {least : Int} {zs : List Int} {v1 v4 : Option V} (hq : H q = some (.lst (nv zs))) (hj : zs[j]? = some (BL.rst r m j)) (hd : (BL.endsFrom r i).drop n = j :: (BL.endsFrom r i).drop (n + 1))
    (hsc : scan r m i ((BL.endsFrom r i).drop n) least be = scan r m i (BL.endsFrom r i) HEAVY i) (hno : ¬ (BL.slk r m i j < 0 ∧ least < BL.vw r m i j)) (k : ∀ σ, BLW H p e q s ts r m i (n + 1) σ H → D.nx σ H) :
    rd_bl_tail K D [some (V.ref p), some (V.int ↑i), some (V.int (Vamati.roomOf m i)), some (V.ref e), some (V.ref q), some (V.ref s), some (V.ref ts), some (V.int (BL.beg r i + Vamati.roomOf m i)), some (V.int (BL.tbeg r i + Vamati.roomOf m i)), some (V.int least), some (V.int be), some (.int (j : Nat)), v1, some (.int (BL.vw r m i j)), v4] H := by
  rw [hd, scan_cons, if_neg hno] at hsc
  refine ⟨_, rfl, _, rfl, _, rfl, q, _, j, .int (BL.rst r m j), rfl, rfl, SqL.of hq, atI_nat (nv_at hj), _, _, rfl, rfl, _, rfl, _, rfl, _, _, rfl, rfl, _, rfl, ?_⟩
  by_cases h3 : BL.vw r m i j + BL.rst r m j < least
  · rw [if_pos h3] at hsc
    refine (if_pos (decide_eq_true h3)).mpr ⟨_, rfl, _, rfl, k _ ⟨rfl, _, j, _, _, _, _, rfl, hsc⟩⟩
  · rw [if_neg h3] at hsc
    refine (if_neg (fun z => h3 (of_decide_eq_true z))).mpr (k _ ⟨rfl, _, be, _, _, _, _, rfl, hsc⟩)
theorem rdok_best_line {K : PySem.W.Frag} {t : Adr} (T : Tx K t) {vs : List V} {H : Hp} {Q : VK} {E : XK} (h : sp_best_line K t vs H Q E) :
    rd_best_line K t { nx := fun _ H' => Q .non H', rt := Q } (L2.start ["edges", "begin", "room", "ends", "rests", "stops", "tight_stops", "limit", "tight_limit", "least", "best_end", "end", "slack", "weight", "excess"] vs) H := by
  obtain ⟨p, e, q, i, r, m, zs, rfl, ⟨dx, b, s, tb, ts, hp, hb, hs, htb, hts⟩, he, hq, hz, hi, g, gm, k⟩ := h
  have hl : 0 < r.length := by omega
  have two_le : (2 : Nat) ≤ sizeLine := by rw [sizeLine_eq]; omega
  unfold rd_best_line
  refine ⟨_, rfl, p, t.Edges, dx, _, _, rfl, hp, T.cls, T.nstops, efs_stops .., ?_⟩
  refine ⟨_, rfl, p, t.Edges, dx, _, _, rfl, hp, T.cls, T.ntstops, efs_tstops .., ?_⟩
  refine ⟨_, rfl, p, t.Edges, dx, _, _, rfl, hp, T.cls, T.nbegins, efs_begins .., _, rfl, b, _, i, .int (BL.beg r i), rfl, rfl, SqL.of hb, atI_nat (nv_at (upto_get _ hi)), _, rfl, _, _, rfl, rfl, ?_⟩
  refine ⟨_, rfl, p, t.Edges, dx, _, _, rfl, hp, T.cls, T.ntbegins, efs_tbegins .., _, rfl, tb, _, i, .int (BL.tbeg r i), rfl, rfl, SqL.of htb, atI_nat (nv_at (upto_get _ hi)), _, rfl, _, _, rfl, rfl, ?_⟩
  have hlast : atI (nv (upto (BL.stp r) r.length)) (-1) = some (.int (BL.stp r (r.length - 1))) := by
    rw [atI_neg1 (by rw [nv_len, upto_len]; exact hl), nv_len, upto_len]
    exact nv_at (upto_get _ (by omega))
  refine ⟨_, rfl, 1, rfl, s, _, -1, .int (BL.stp r (r.length - 1)), rfl, rfl, SqL.of hs, hlast, _, rfl, _, _, rfl, rfl, _, rfl, ?_⟩
  by_cases hsh : BL.stp r (r.length - 1) ≤ BL.beg r i + Vamati.roomOf m i
  · obtain ⟨w1, w2⟩ := BL.short_line g gm hi (show 0 ≤ BL.slk r m i (r.length - 1) by unfold BL.slk; omega)
    refine (if_pos (decide_eq_true hsh)).mpr ⟨_, rfl, s, _, rfl, .inl (SqL.of hs), _, _, rfl, rfl, two_le, fun d hd => k _ d (same_new hd) hd ?_⟩
    rw [upd_same, w1, w2, nv_len, upto_len]
    show some (HO.tup [V.int 1, V.int ((r.length : Int) - 1)]) = _
    rw [show ((r.length : Int) - 1) = ((r.length - 1 : Nat) : Int) by omega]
    rfl
  · refine (if_neg (fun z => hsh (of_decide_eq_true z))).mpr ⟨_, rfl, ?_⟩
    have hneg : BL.slk r m i (r.length - 1) < 0 := by unfold BL.slk; omega
    have hres : scan r m i (BL.endsFrom r i) HEAVY i = (BL.wt (BL.B r m i).worth, BL.nxt r m i) := BL.scan_line g gm hi hneg i
    have fin : ∀ (least : Int) (be : Nat), (least, be) = scan r m i (BL.endsFrom r i) HEAVY i → 2 ≤ sizeLine ∧ ∀ d, H d = none → Q (.ref d) (upd H d (.tup [.int least, .int be])) := fun least be hw => by
      rw [hres] at hw
      obtain ⟨rfl, rfl⟩ := Prod.mk.inj hw
      exact ⟨two_le, fun d hd => k _ d (same_new hd) hd upd_same⟩
    show tSeq (tFor (iList K (tVar 3)) _ _) _ _ _ _
    refine for_ls (a := e) (fun R h => ⟨_, rfl, h⟩) (SqL.of he) (BLW H p e q s ts r m i) ⟨rfl, HEAVY, i, none, none, none, none, rfl, rfl⟩ (fun _ _ _ _ w => by rw [w.1]; exact SqL.of he) ?_ ?_
    · rintro n x σ H2 hxn ⟨rfl, least, be, v1, v2, v3, v4, rfl, hsc⟩
      obtain ⟨j, hj, rfl⟩ : ∃ j, (BL.endsFrom r i)[n]? = some j ∧ x = .int (j : Nat) := by
        obtain ⟨z, hz, rfl⟩ := nv_get hxn
        unfold ends_ at hz
        rw [List.getElem?_map] at hz
        cases w : (BL.endsFrom r i)[n]? with
        | none => rw [w] at hz; cases hz
        | some j => rw [w] at hz; exact ⟨j, rfl, by rw [← Option.some.inj hz]; rfl⟩
      have hjm : j ∈ BL.endsFrom r i := List.mem_of_getElem? hj
      obtain ⟨hij, hjl, hje⟩ := BL.mem_endsFrom.mp hjm
      have hd : (BL.endsFrom r i).drop n = j :: (BL.endsFrom r i).drop (n + 1) := by
        rw [List.drop_eq_getElem_cons (List.getElem?_eq_some_iff.mp hj).1, (List.getElem?_eq_some_iff.mp hj).2]
      have sb := BL.slk_bound g gm hij hjl
      have xb := BL.exc_le g (m := m) hij hjl
      have tail := fun {D v1 v4} => @bl_tail K D H2 p e q s ts r m i n j be least zs v1 v4 hq (hz.at_ j hjm) hd hsc
      show tSeq _ (tSeq _ (tSeq _ (rd_bl_tail K))) _ _ _
      generalize rd_bl_tail K = RR at tail ⊢
      refine ⟨_, rfl, _, rfl, _, rfl, s, _, j, .int (BL.stp r j), rfl, rfl, SqL.of hs, atI_nat (nv_at (upto_get _ hjl)), _, _, rfl, rfl, ?_⟩
      have es : BL.beg r i + Vamati.roomOf m i - BL.stp r j = BL.slk r m i j := rfl
      refine ⟨_, rfl, _, rfl, _, _, rfl, rfl, .inl ⟨by show (-(2 ^ 64) : Int) < BL.slk r m i j; omega, by show BL.slk r m i j < (2 ^ 64 : Int); omega⟩, _, _, rfl, rfl, .inr ⟨by decide, by decide⟩, ?_⟩
      refine ⟨_, rfl, _, _, rfl, rfl, _, rfl, ?_⟩
      by_cases h0 : BL.slk r m i j < 0
      · refine (if_pos (decide_eq_true h0)).mpr ?_
        refine ⟨_, rfl, _, rfl, ts, _, j, .int (BL.tstp r j), rfl, rfl, SqL.of hts, atI_nat (nv_at (upto_get _ hjl)), _, rfl, _, _, rfl, rfl, _, rfl, _, _, rfl, rfl, _, rfl, ?_⟩
        have brk : ∀ {w : Int} {σ' : St}, w = BL.vw r m i j → σ'[13]? = some (some (.int w)) → σ'[9]? = some (some (.int least)) → σ'[10]? = some (some (.int be)) → (¬ least < BL.vw r m i j → RR { nx := BLW H2 p e q s ts r m i (n + 1), ct := BLW H2 p e q s ts r m i (n + 1), bk := tRet (tTup (tCons (tVar 9) (tCons (tVar 10) tNil))) { nx := fun _ H' => Q .non H', rt := Q }, rt := Q } σ' H2) →
            tIfS (tTest (tOp (rI0 fun i j => .bl (decide (j < i))) (tVar 13) (tVar 9))) tBreak tNext { nx := RR { nx := BLW H2 p e q s ts r m i (n + 1), ct := BLW H2 p e q s ts r m i (n + 1), bk := tRet (tTup (tCons (tVar 9) (tCons (tVar 10) tNil))) { nx := fun _ H' => Q .non H', rt := Q }, rt := Q }, ct := BLW H2 p e q s ts r m i (n + 1), bk := tRet (tTup (tCons (tVar 9) (tCons (tVar 10) tNil))) { nx := fun _ H' => Q .non H', rt := Q }, rt := Q } σ' H2 := fun ew e13 e9 e10 hk => by
          subst ew
          refine ⟨_, e13, _, e9, _, _, rfl, rfl, _, rfl, ?_⟩
          by_cases h2 : least < BL.vw r m i j
          · refine (if_pos (decide_eq_true h2)).mpr ⟨_, e9, _, e10, fin least be ?_⟩
            rw [hd, scan_cons, if_pos ⟨h0, h2⟩] at hsc
            exact hsc
          · exact (if_neg (fun z => h2 (of_decide_eq_true z))).mpr (hk h2)
        by_cases h1 : 0 < BL.exc r m i j
        · refine (if_pos (decide_eq_true h1)).mpr ⟨_, rfl, _, rfl, _, _, rfl, rfl, .inl ⟨by show (-(2 ^ 64) : Int) < BL.exc r m i j; omega, by show BL.exc r m i j < (2 ^ 64 : Int); omega⟩, _, _, rfl, rfl, ?_⟩
          have ev : BL.slk r m i j * BL.slk r m i j * 1000 + BL.exc r m i j * 1000000000000000000000000 = BL.vw r m i j := by unfold BL.vw; rw [if_pos h0, if_pos h1]
          refine brk ev rfl rfl rfl fun h2 => ?_
          rw [← ev] at tail
          exact tail (fun z => h2 (by rw [← ev]; exact z.2)) fun σ z => z
        · refine (if_neg (fun z => h1 (of_decide_eq_true z))).mpr ?_
          have ev : BL.slk r m i j * BL.slk r m i j * 1000 = BL.vw r m i j := by unfold BL.vw; rw [if_pos h0, if_neg h1]; omega
          refine brk ev rfl rfl rfl fun h2 => ?_
          rw [← ev] at tail
          exact tail (fun z => h2 (by rw [← ev]; exact z.2)) fun σ z => z
      · refine (if_neg (fun z => h0 (of_decide_eq_true z))).mpr ?_
        have ev : BL.slk r m i j * BL.slk r m i j * 1000 = BL.vw r m i j := by unfold BL.vw; rw [if_neg h0]; omega
        rw [← ev] at tail
        exact tail (fun z => h0 z.1) fun σ z => z
    · rintro σ H2 ⟨rfl, least, be, v1, v2, v3, v4, rfl, hsc⟩
      have hlen : (nv (ends_ r i)).length = (BL.endsFrom r i).length := by unfold ends_; rw [nv_len, List.length_map]
      rw [hlen, List.drop_length] at hsc
      exact ⟨_, rfl, _, rfl, fin least be hsc⟩
theorem while_w {c : TT} {tb : TS} {D : Ends} {σ : St} {H : Hp} (W : Nat → St → Hp → Prop) (m0 : Nat) (h0 : W m0 σ H)
    (hs : ∀ m σ H, W m σ H → c σ H fun b H1 => if b = true then ∃ N : St → Hp → Prop, (∀ σ' H', N σ' H' → ∃ m', m' < m ∧ W m' σ' H') ∧ tb { D with nx := N, ct := N, bk := D.nx } σ H1 else D.nx σ H1) : tWhile c tb D σ H := ⟨W, ⟨m0, h0⟩, hs⟩
structure Lends (r : Row) (m : Measure) (i : Nat) (zs : List Int) : Prop where
  len : zs.length = r.length
  at_ : ∀ j, i ≤ j → j < r.length → zs[j]? = some ((BL.nxt r m j : Nat) : Int)
def sp_follow (K : PySem.W.Frag) (t : Adr) : Sp := fun vs H Q _ => ∃ (l : Addr) (r : Row) (m : Measure) (zs : List Int), vs = [.ref l] ∧ H l = some (.lst (nv zs)) ∧ Lends r m 0 zs ∧ BL.Good r ∧ BL.GoodM m ∧
  ∀ H' d, Same H H' → H d = none → H' d = some (.lst (nv (Vamati.nats (Vamati.bestOf r m).ends))) → Q (.ref d) H'
def rd_follow (K : PySem.W.Frag) (t : Adr) : TS :=
  (tSeq (tAsg (tLst tNil) (gName 1))
  (tSeq (tAsg (tC (.int 0)) (gName 2))
  (tSeq (tWhile (tTest (tOp (rI0 fun i j => .bl (decide (i < j))) (tVar 2) (tCB (rLen K) (tCons (tVar 0) tNil))))
    (tSeq (tDrop (tBM K "list" rAppend (tVar 1) (tCons (tOp (rIxL K) (tVar 0) (tVar 2)) tNil)))
    (tAsg (tOp (rI0 fun i j => .int (i + j)) (tOp (rIxL K) (tVar 0) (tVar 2)) (tC (.int 1))) (gName 2))))
  (tRet (tVar 1)))))
theorem ends_len {r : Row} (g : BL.Good r) {m : Measure} (gm : BL.GoodM m) : ∀ k i, i + k = r.length → (BL.B r m i).ends.length ≤ k
  | k, i, h => by
    by_cases hi : i < r.length
    · have q := BL.B_first g gm (m := m) hi
      rw [BL.B_ends g gm hi, List.length_cons]
      have := ends_len g gm (m := m) (r.length - (BL.nxt r m i + 1)) (BL.nxt r m i + 1) (by omega)
      omega
    · have e : i = r.length := by omega
      subst e
      rw [BL.B_len]
      exact Nat.zero_le _
termination_by k => k
def FW (H : Hp) (l d : Addr) (r : Row) (m : Measure) (n : Nat) (σ : St) (H2 : Hp) : Prop := ∃ (i : Nat) (done : List Nat), n = r.length - i ∧ i ≤ r.length ∧ σ = [some (.ref l), some (.ref d), some (.int i)] ∧ Same H H2 ∧ H2 d = some (.lst (nv (Vamati.nats done))) ∧ done ++ (BL.B r m i).ends = (BL.B r m 0).ends
theorem rdok_follow {K : PySem.W.Frag} {t : Adr} (T : Tx K t) {vs : List V} {H : Hp} {Q : VK} {E : XK} (h : sp_follow K t vs H Q E) :
    rd_follow K t { nx := fun _ H' => Q .non H', rt := Q } (L2.start ["line_ends", "ends", "begin"] vs) H := by
  obtain ⟨l, r, m, zs, rfl, hl, hz, g, gm, k⟩ := h
  unfold rd_follow
  walk_at "rd"
  refine ⟨Nat.zero_le _, fun d hd => ?_⟩
  have s0 := same_new (o := .lst []) hd
  refine while_w (FW H l d r m) _ ⟨0, [], rfl, Nat.zero_le _, rfl, s0, upd_same, rfl⟩ ?_
  rintro n σ H2 ⟨i, done, rfl, hi, rfl, hs, hd2, hdone⟩
  have hl2 := hs _ _ hl
  walk_at "rd"
  refine ⟨_, .inl (SqL.of hl2), ?_⟩
  rw [nv_len, hz.len]
  by_cases hlt : i < r.length
  · rw [if_pos (by omega)]
    have ha := atI_nat (nv_at (hz.at_ i (Nat.zero_le _) hlt))
    have hB := BL.B_ends g gm (m := m) hlt
    have hf := BL.B_first g gm (m := m) hlt
    refine ⟨fun σ' H' => ∃ m', m' < r.length - i ∧ FW H l d r m m' σ' H', fun σ' H' q => q, .inl ⟨rfl, _, SqL.of hd2⟩, _, SqL.of hl2, _, ha, _, hd2, ?_, ?_⟩
    · have l1 := ends_len g gm (m := m) r.length 0 (by omega)
      rw [← hdone, List.length_append] at l1
      unfold Vamati.nats
      rw [nv_len, List.length_map, sizeLine_eq]
      have := g.few
      omega
    · have hdl : l ≠ d := ne_of_none hl hd
      refine ⟨_, SqL.of (by rw [upd_ne hdl]; exact hl2), _, ha, _, rfl, ?_⟩
      refine ⟨r.length - (BL.nxt r m i + 1), by omega, BL.nxt r m i + 1, done ++ [BL.nxt r m i], rfl, by omega, ?_, ?_, ?_, ?_⟩
      · rfl
      · exact fun b o e => by rw [upd_ne (ne_of_none e hd)]; exact hs b o e
      · rw [upd_same]
        unfold Vamati.nats nv
        rw [List.map_append, List.map_append]; rfl
      · rw [List.append_assoc, ← hdone, hB]; rfl
  · rw [if_neg (by omega)]
    have e : i = r.length := by omega
    subst e
    rw [BL.B_len, show BL.emp.ends = [] from rfl, List.append_nil] at hdone
    rw [hdone] at hd2
    exact k H2 d hs hd hd2
/-! ### what the further defs promise -/
def Tells (H : Hp) (ans : List Int) (Q : VK) : Prop := ∀ H' q, Same H H' → H q = none → H' q = some (.lst (nv ans)) → Q (.ref q) H'
/-- all but the new object stands as before -/
def Rest (p : Addr) (H H' : Hp) : Prop := ∀ b o, H b = some o → b ≠ p → H' b = some o
def mfs (m : Measure) : List (Str × V) := putF "indent" (.int m.indent) (putF "first" (.int m.first) (putF "width" (.int m.measure) []))
def MeasAt (t : Adr) (H : Hp) (p : Addr) (m : Measure) : Prop := ∃ dx, H p = some (.ins t.Measure dx (mfs m))
def sp_Measure (K : PySem.W.Frag) (t : Adr) : Sp := fun vs H Q _ => ∃ (p dx : Addr) (m : Measure), vs = [.ref p, .int m.measure, .int m.first, .int m.indent] ∧ H p = some (.ins t.Measure dx []) ∧ ∀ H', MeasAt t H' p m → Rest p H H' → Q .non H'
def sp_Measure_indent_at (K : PySem.W.Frag) (t : Adr) : Sp := fun vs H Q _ => ∃ (p : Addr) (m : Measure) (i : Nat), vs = [.ref p, .int i] ∧ MeasAt t H p m ∧ Q (.int (Vamati.indentOf m i)) H
def sp_Measure_room_at (K : PySem.W.Frag) (t : Adr) : Sp := fun vs H Q _ => ∃ (p : Addr) (m : Measure) (i : Nat), vs = [.ref p, .int i] ∧ MeasAt t H p m ∧ Q (.int (Vamati.roomOf m i)) H
def sp_may_end (K : PySem.W.Frag) (t : Adr) : Sp := fun vs H Q _ => ∃ (l : Addr) (r : Row) (i : Nat), vs = [.ref l, .int i] ∧ RowAt K H l r ∧ BL.Good r ∧ i < r.length ∧ Q (.bl (Vamati.mayEnd r i)) H
def sp_is_breaking (K : PySem.W.Frag) (t : Adr) : Sp := fun vs H Q _ => ∃ (l e : Addr) (r : Row) (es : List Int), vs = [.ref l, .ref e] ∧ RowAt K H l r ∧ BL.Good r ∧ H e = some (.lst (nv es)) ∧ Q (.bl (BL.brkI r 0 es)) H
def sp_best_breaking (K : PySem.W.Frag) (t : Adr) : Sp := fun vs H Q _ => ∃ (l p : Addr) (r : Row) (m : Measure), vs = [.ref l, .ref p] ∧ RowAt K H l r ∧ MeasAt t H p m ∧ BL.Good r ∧ BL.GoodM m ∧ Tells H (Vamati.nats (Vamati.bestOf r m).ends) Q
def sp_greedy_line (K : PySem.W.Frag) (t : Adr) : Sp := fun vs H Q _ => ∃ (l p : Addr) (r : Row) (m : Measure) (i : Nat), vs = [.ref l, .ref p, .int i, .int (Vamati.roomOf m i)] ∧ RowAt K H l r ∧ EdgesAt t H p r ∧ BL.Good r ∧ i < r.length ∧ Q (.int (Vamati.greedyEnd r m i)) H
def sp_greedy_breaking (K : PySem.W.Frag) (t : Adr) : Sp := fun vs H Q _ => ∃ (l p : Addr) (r : Row) (m : Measure), vs = [.ref l, .ref p] ∧ RowAt K H l r ∧ MeasAt t H p m ∧ BL.Good r ∧ Tells H (Vamati.nats (Vamati.greedyFrom r m r.length 0)) Q
def sp_natural_width (K : PySem.W.Frag) (t : Adr) : Sp := fun vs H Q _ => ∃ (l : Addr) (r : Row), vs = [.ref l] ∧ RowAt K H l r ∧ BL.Good r ∧ ∀ H', Same H H' → Q (.int (Vamati.naturalOf r)) H'
def sp_narrowest_measure (K : PySem.W.Frag) (t : Adr) : Sp := fun vs H Q _ => ∃ (l : Addr) (r : Row), vs = [.ref l] ∧ RowAt K H l r ∧ BL.Good r ∧ ∀ H', Same H H' → Q (.int (Vamati.greatest (0 :: (Vamati.shortest r).map fun l => Vamati.naturalOf l - Vamati.shrinkOf l))) H'
/-- what the attributes of a line hold -/
structure LF (r : Row) (m : Measure) (i j : Nat) (fs : List (Str × V)) : Prop where
  begin_ : fs.lookup ("begin" : Str) = some (.int i)
  end_ : fs.lookup ("end" : Str) = some (.int j)
  is_last : fs.lookup ("is_last" : Str) = some (.bl (decide (j + 1 = r.length)))
  indent : fs.lookup ("indent" : Str) = some (.int (Vamati.indentOf m i))
  natural : fs.lookup ("natural" : Str) = some (.int (Vamati.naturalOf (Vamati.slice r i j)))
  stretch : fs.lookup ("stretch" : Str) = some (.int (Vamati.stretchOf (Vamati.slice r i j)))
  shrink : fs.lookup ("shrink" : Str) = some (.int (Vamati.shrinkOf (Vamati.slice r i j)))
  slack : fs.lookup ("slack" : Str) = some (.int (Vamati.slackOf (Vamati.roomOf m i) (Vamati.slice r i j)))
  overfull : fs.lookup ("overfull" : Str) = some (.int (Vamati.overOf (Vamati.roomOf m i) (Vamati.slice r i j)))
  height : fs.lookup ("height" : Str) = some (.int (Vamati.heightOf (Vamati.slice r i j)))
  depth : fs.lookup ("depth" : Str) = some (.int (Vamati.depthOf (Vamati.slice r i j)))
  cost : fs.lookup ("cost" : Str) = some (.int (Vamati.costOf (Vamati.roomOf m i) (decide (j + 1 = r.length)) (Vamati.slice r i j)))
def LineAt (t : Adr) (H : Hp) (p : Addr) (r : Row) (m : Measure) (q : Nat × Nat) : Prop := ∃ dx fs, H p = some (.ins t.Line dx fs) ∧ LF r m q.1 q.2 fs
def sp_Line (K : PySem.W.Frag) (t : Adr) : Sp := fun vs H Q _ => ∃ (p dx l q : Addr) (r : Row) (m : Measure) (i j : Nat), vs = [.ref p, .ref l, .int i, .int j, .ref q] ∧ H p = some (.ins t.Line dx []) ∧ RowAt K H l r ∧ MeasAt t H q m ∧ BL.Good r ∧ BL.GoodM m ∧ i ≤ j ∧ j < r.length ∧
  ∀ H', LineAt t H' p r m (i, j) → Rest p H H' → Q .non H'
/-- a list of lines stands at d -/
def LinesIs (t : Adr) (H : Hp) (xs : List V) (r : Row) (m : Measure) (ls : List (Nat × Nat)) : Prop := xs.length = ls.length ∧ ∀ (k : Nat) (x : V) (p : Nat × Nat), xs[k]? = some x → ls[k]? = some p → ∃ a, x = V.ref a ∧ LineAt t H a r m p
def LinesAt (t : Adr) (H : Hp) (d : Addr) (r : Row) (m : Measure) (ls : List (Nat × Nat)) : Prop := ∃ xs, H d = some (.lst xs) ∧ LinesIs t H xs r m ls
def sp_set_lines (K : PySem.W.Frag) (t : Adr) : Sp := fun vs H Q _ => ∃ (l e q : Addr) (r : Row) (m : Measure) (es : List Nat), vs = [.ref l, .ref e, .ref q] ∧ RowAt K H l r ∧ H e = some (.lst (nv (Vamati.nats es))) ∧ MeasAt t H q m ∧ BL.Good r ∧ BL.GoodM m ∧ Vamati.isBreaking r 0 es = true ∧
  ∀ H' d, Same H H' → H d = none → LinesAt t H' d r m (Vamati.linesOf 0 es) → Q (.ref d) H'
/-- lines that are lines of the row, not too many -/
structure LsOk (r : Row) (ls : List (Nat × Nat)) : Prop where
  few : ls.length ≤ 300
  ok : ∀ p ∈ ls, p.1 ≤ p.2 ∧ p.2 < r.length
def sp_totals (K : PySem.W.Frag) (t : Adr) : Sp := fun vs H Q _ => ∃ (d : Addr) (r : Row) (m : Measure) (ls : List (Nat × Nat)), vs = [.ref d] ∧ LinesAt t H d r m ls ∧ LsOk r ls ∧
  Tells H [Vamati.sum (ls.map fun p => Vamati.overOf (Vamati.roomOf m p.1) (Vamati.slice r p.1 p.2)), Vamati.sum (ls.map fun p => Vamati.costOf (Vamati.roomOf m p.1) (decide (p.2 + 1 = r.length)) (Vamati.slice r p.1 p.2)), (ls.length : Int)] Q
def sixOf (r : Row) (m : Measure) (p : Nat × Nat) : List Int := [(p.1 : Int), (p.2 : Int), Vamati.slackOf (Vamati.roomOf m p.1) (Vamati.slice r p.1 p.2), Vamati.overOf (Vamati.roomOf m p.1) (Vamati.slice r p.1 p.2), Vamati.heightOf (Vamati.slice r p.1 p.2), Vamati.depthOf (Vamati.slice r p.1 p.2)]
def sp_line_numbers (K : PySem.W.Frag) (t : Adr) : Sp := fun vs H Q _ => ∃ (d : Addr) (r : Row) (m : Measure) (ls : List (Nat × Nat)), vs = [.ref d] ∧ LinesAt t H d r m ls ∧ LsOk r ls ∧ Tells H (ls.flatMap (sixOf r m)) Q
def shareOf (a : Int) (ps : List Int) (k : Nat) : Int := a * Vamati.sum (ps.take k) / Vamati.sum ps
def sp_shares (K : PySem.W.Frag) (t : Adr) : Sp := fun vs H Q _ => ∃ (p : Addr) (a : Int) (ps : List Int), vs = [.int a, .ref p] ∧ H p = some (.lst (nv ps)) ∧ ps.length ≤ 300 ∧ 0 < Vamati.sum ps ∧ Vamati.sum ps ≤ 1000000000 ∧ (-1000000000 ≤ a ∧ a ≤ 1000000000) ∧ Tells H (upto (shareOf a ps) (ps.length + 1)) Q
def sp_shifts (K : PySem.W.Frag) (t : Adr) : Sp := fun vs H Q _ => ∃ (l p : Addr) (r : Row) (m : Measure) (i j : Nat), vs = [.ref l, .ref p] ∧ RowAt K H l r ∧ LineAt t H p r m (i, j) ∧ BL.Good r ∧ BL.GoodM m ∧ i ≤ j ∧ j < r.length ∧
  Tells H (upto (Vamati.putTo (Vamati.roomOf m i) (decide (j + 1 = r.length)) (Vamati.slice r i j)) (Vamati.slice r i j).length) Q
def sp_item_edges (K : PySem.W.Frag) (t : Adr) : Sp := fun vs H Q _ => ∃ (l p : Addr) (r : Row) (m : Measure) (i j : Nat), vs = [.ref l, .ref p] ∧ RowAt K H l r ∧ LineAt t H p r m (i, j) ∧ BL.Good r ∧ i ≤ j ∧ j < r.length ∧
  Tells H (upto (fun k => Vamati.indentOf m i + BL.beg (Vamati.slice r i j) k) (Vamati.slice r i j).length) Q
def sp_baselines (K : PySem.W.Frag) (t : Adr) : Sp := fun vs H Q _ => ∃ (d : Addr) (r : Row) (m : Measure) (ls : List (Nat × Nat)) (lead gap : Int), vs = [.ref d, .int lead, .int gap] ∧ LinesAt t H d r m ls ∧ LsOk r ls ∧ Tells H (Vamati.baselines lead gap none (Vamati.rowsOf r ls)) Q
def sp_item_places (K : PySem.W.Frag) (t : Adr) : Sp := fun vs H Q _ => ∃ (l d : Addr) (r : Row) (m : Measure) (ls : List (Nat × Nat)) (e lead gap : Int), vs = [.ref l, .ref d, .int e, .int lead, .int gap] ∧ RowAt K H l r ∧ LinesAt t H d r m ls ∧ LsOk r ls ∧ BL.Good r ∧ BL.GoodM m ∧
  Tells H (((BL.PL r lead gap ls).flatMap (BL.FP r m (decide (e = 1)))).flatMap fun p => [p.1, p.2]) Q
def sp_outer_box (K : PySem.W.Frag) (t : Adr) : Sp := fun vs H Q _ => ∃ (d : Addr) (r : Row) (m : Measure) (lead gap : Int), vs = [.ref d, .int lead, .int gap] ∧ LinesAt t H d r m (Vamati.linesOf 0 (Vamati.bestOf r m).ends) ∧ BL.Good r ∧ BL.GoodM m ∧ Tells H (Vamati.boxAnswer r m lead gap).tail Q
def mostAt (t : Adr) (c : Int) : Addr := if c = 10 then t.MOST_OF_PLACES else if c = 11 then t.MOST_OF_BOX else t.MOST_OF_MEASURE
def sp_most_wholes (K : PySem.W.Frag) (t : Adr) : Sp := fun vs H Q _ => ∃ (c : Int), vs = [.int c] ∧ Q (.ref (mostAt t c)) H
def inR (ws ms : List Int) : Bool := (ws.zip ms).all fun p => decide (0 ≤ p.1) && decide (p.1 ≤ p.2)
def sp_in_range (K : PySem.W.Frag) (t : Adr) : Sp := fun vs H Q _ => ∃ (p q : Addr) (ws ms : List Int), vs = [.ref p, .ref q] ∧ SqL K H p (nv ws) ∧ SqT K H q (nv ms) ∧ ws.length = ms.length ∧ ∀ H', Same H H' → Q (.bl (inR ws ms)) H'
def sp_judge (K : PySem.W.Frag) (t : Adr) : Sp := fun vs H Q _ => ∃ (l p e : Addr) (r : Row) (m : Measure) (es : List Int), vs = [.ref l, .ref p, .ref e] ∧ RowAt K H l r ∧ MeasAt t H p m ∧ BL.Good r ∧ BL.GoodM m ∧ H e = some (.lst (nv es)) ∧ Tells H (Vamati.judgeAnswer r m es) Q
def sp_answer_with_measure (K : PySem.W.Frag) (t : Adr) : Sp := fun vs H Q _ => ∃ (l d e : Addr) (r : Row) (p : Int) (ws ns : List Int) (cl : Vamati.Call), vs = [.ref l, .int p, .ref d, .ref e] ∧ RowAt K H l r ∧ BL.Good r ∧ H d = some (.lst (nv ws)) ∧ H e = some (.lst (nv ns)) ∧
  BL.CallIs p ws ns cl ∧ 5 ≤ p ∧ p ≤ 11 ∧ Tells H (Vamati.answerOf r cl) Q
def sp_answer (K : PySem.W.Frag) (t : Adr) : Sp := fun vs H Q _ => ∃ (l d e : Addr) (r : Row) (p : Int) (ws ns : List Int) (cl : Vamati.Call), vs = [.ref l, .int p, .ref d, .ref e] ∧ RowAt K H l r ∧ BL.Good r ∧ H d = some (.lst (nv ws)) ∧ H e = some (.lst (nv ns)) ∧ d ≠ l ∧ e ≠ l ∧ ns.length ≤ 17000 ∧
  BL.CallIs p ws ns cl ∧ Does K H l (Vamati.step ⟨r⟩ cl) Q
def sp_answers (K : PySem.W.Frag) : Sp := fun vs H Q _ => ∃ (a : Addr) (ns : List Int), vs = [.ref a] ∧ SqL K H a (nv ns) ∧ ns.length ≤ 17000 ∧ PyVamati.answers_asked ns = true ∧ ∀ H' p, H' p = some (.lst (nv (PyVamati.answers ns))) → Q (.ref p) H'
/-! ### a measure, whether a line may end -/
theorem mfs_width (m : Measure) : (mfs m).lookup ("width" : Str) = some (.int m.measure) := by
  unfold mfs
  rw [lookup_putF, if_neg (by decide +kernel), lookup_putF, if_neg (by decide +kernel), lookup_putF, if_pos rfl]
theorem mfs_first (m : Measure) : (mfs m).lookup ("first" : Str) = some (.int m.first) := by
  unfold mfs
  rw [lookup_putF, if_neg (by decide +kernel), lookup_putF, if_pos rfl]
theorem mfs_indent (m : Measure) : (mfs m).lookup ("indent" : Str) = some (.int m.indent) := by
  unfold mfs
  rw [lookup_putF, if_pos rfl]
theorem mfs_none (m : Measure) {f : Str} (h1 : f ≠ "width") (h2 : f ≠ "first") (h3 : f ≠ "indent") : (mfs m).lookup f = none := by
  unfold mfs
  rw [lookup_putF, if_neg h3, lookup_putF, if_neg h2, lookup_putF, if_neg h1]; rfl
theorem MeasAt.same {t : Adr} {H H' : Hp} {p : Addr} {m : Measure} (s : Same H H') (h : MeasAt t H p m) : MeasAt t H' p m := let ⟨dx, e⟩ := h; ⟨dx, s _ _ e⟩
def rd_Measure_init (K : PySem.W.Frag) (t : Adr) : TS :=
  (tSeq (sFld K (tVar 0) (tVar 1) "width")
  (tSeq (sFld K (tVar 0) (tVar 2) "first")
  (sFld K (tVar 0) (tVar 3) "indent")))
theorem rdok_Measure_init {K : PySem.W.Frag} {t : Adr} (T : Tx K t) {vs : List V} {H : Hp} {Q : VK} {E : XK} (h : sp_Measure K t vs H Q E) : rd_Measure_init K t { nx := fun _ H' => Q .non H', rt := Q } (L2.start ["self", "width", "first", "indent"] vs) H := by
  obtain ⟨p, dx, m, rfl, hp, k⟩ := h
  unfold rd_Measure_init
  refine ⟨_, rfl, _, rfl, p, t.Measure, dx, _, rfl, hp, T.clsM, T.mwidth, by decide, ?_⟩
  refine ⟨_, rfl, _, rfl, p, t.Measure, dx, _, rfl, upd_same, T.clsM, T.mfirst, putF_lt (n := 999) (by decide), ?_⟩
  refine ⟨_, rfl, _, rfl, p, t.Measure, dx, _, rfl, upd_same, T.clsM, T.mindent, putF_lt (n := 999) (putF_lt (n := 998) (by decide)), ?_⟩
  exact k _ ⟨dx, upd_same⟩ (fun b o e hb => by rw [upd_ne hb, upd_ne hb, upd_ne hb]; exact e)
def rd_Measure_indent_at (K : PySem.W.Frag) (t : Adr) : TS :=
  (tRet (tIf (tTest (tOp rEq (tVar 1) (tC (.int 0)))) (tFld K (tVar 0) "first") (tFld K (tVar 0) "indent")))
theorem rdok_Measure_indent_at {K : PySem.W.Frag} {t : Adr} (T : Tx K t) {vs : List V} {H : Hp} {Q : VK} {E : XK} (h : sp_Measure_indent_at K t vs H Q E) : rd_Measure_indent_at K t { nx := fun _ H' => Q .non H', rt := Q } (L2.start ["self", "begin"] vs) H := by
  obtain ⟨p, m, i, rfl, ⟨dx, hp⟩, k⟩ := h
  unfold rd_Measure_indent_at
  walk_at "rd"
  unfold Vamati.indentOf at k
  by_cases h0 : i = 0
  · subst h0
    rw [if_pos rfl] at k
    rw [if_pos (show ((0 : Nat) : Int) = 0 from rfl)]
    exact ⟨_, rfl, p, t.Measure, dx, _, _, rfl, hp, T.clsM, T.mfirst, mfs_first m, k⟩
  · rw [if_neg h0] at k
    rw [if_neg (by omega)]
    exact ⟨_, rfl, p, t.Measure, dx, _, _, rfl, hp, T.clsM, T.mindent, mfs_indent m, k⟩
def rd_Measure_room_at (K : PySem.W.Frag) (t : Adr) : TS :=
  (tRet (tOp (rI0 fun i j => .int (i - j)) (tFld K (tVar 0) "width") (tMeth t.Measure "indent_at" (sp_Measure_indent_at K t) [] E0 (tVar 0) (tCons (tVar 1) tNil))))
theorem rdok_Measure_room_at {K : PySem.W.Frag} {t : Adr} (T : Tx K t) {vs : List V} {H : Hp} {Q : VK} {E : XK} (h : sp_Measure_room_at K t vs H Q E) : rd_Measure_room_at K t { nx := fun _ H' => Q .non H', rt := Q } (L2.start ["self", "begin"] vs) H := by
  obtain ⟨p, m, i, rfl, ⟨dx, hp⟩, k⟩ := h
  unfold rd_Measure_room_at
  refine ⟨_, rfl, p, t.Measure, dx, _, _, rfl, hp, T.clsM, T.mwidth, mfs_width m, _, rfl, p, dx, _, rfl, hp, mfs_none m (by decide +kernel) (by decide +kernel) (by decide +kernel), _, rfl, p, m, i, rfl, ⟨dx, hp⟩, _, _, rfl, rfl, ?_⟩
  have e : m.measure - Vamati.indentOf m i = Vamati.roomOf m i := by
    unfold Vamati.indentOf Vamati.roomOf
    split <;> rfl
  show Q (.int (m.measure - Vamati.indentOf m i)) H
  rw [e]; exact k
def rd_may_end (K : PySem.W.Frag) (t : Adr) : TS :=
  (tRet (tOrV (tOp rEq (tVar 1) (tOp (rI0 fun i j => .int (i - j)) (tCB (rLen K) (tCons (tVar 0) tNil)) (tC (.int 1)))) (tOp rNe (tOp (rIxT K) (tOp (rIxL K) (tVar 0) (tVar 1)) (tC (.int (6)))) (tC (.int (-1))))))
theorem rdok_may_end {K : PySem.W.Frag} {t : Adr} (T : Tx K t) {vs : List V} {H : Hp} {Q : VK} {E : XK} (h : sp_may_end K t vs H Q E) : rd_may_end K t { nx := fun _ H' => Q .non H', rt := Q } (L2.start ["boxes", "end"] vs) H := by
  obtain ⟨l, r, i, rfl, ⟨xs, hx, hr⟩, g, hi, k⟩ := h
  unfold rd_may_end tOrV
  walk_at "rd"
  refine ⟨_, .inl (SqL.of hx), ?_⟩
  rw [hr.1]
  have me := BL.mayEnd_iff g hi
  by_cases h1 : i + 1 = r.length
  · rw [if_pos (by omega)]
    rw [me.mpr (.inl h1)] at k
    exact k
  · rw [if_neg (by omega)]
    have hxi : i < xs.length := by rw [hr.1]; exact hi
    obtain ⟨p, hp, hq⟩ := hr.2 i xs[i] r[i] (List.getElem?_eq_getElem hxi) (List.getElem?_eq_getElem hi)
    refine ⟨_, SqL.of hx, .ref p, atI_nat (by rw [List.getElem?_eq_getElem hxi, hp]), p, rfl, _, hq, .int r[i].cost, rfl, ?_⟩
    refine ⟨rfl, ?_⟩
    have e : (!decide (V.int r[i].cost = V.int (-1))) = Vamati.mayEnd r i := by
      rw [Bool.eq_iff_iff, me]
      simp [h1]
    rw [e]; exact k
theorem RowIs.item {K : PySem.W.Frag} {H : Hp} {xs : List V} {r : Row} (hr : RowIs K H xs r) {i : Nat} (hi : i < r.length) : ∃ p, xs[i]? = some (.ref p) ∧ SqT K H p (nv (numbersOf r[i])) := by
  have hxi : i < xs.length := by rw [hr.1]; exact hi
  obtain ⟨p, hp, hq⟩ := hr.2 i xs[i] r[i] (List.getElem?_eq_getElem hxi) (List.getElem?_eq_getElem hi)
  exact ⟨p, by rw [List.getElem?_eq_getElem hxi, hp], hq⟩
/-! ### edges are made; breakings told, greedy, natural, narrowest -/
theorem make_edges {K : PySem.W.Frag} {t : Adr} {σ : St} {H : Hp} {Q : VK} {l : Addr} {r : Row} (h0 : σ[0]? = some (some (.ref l))) (hrow : RowAt K H l r) (hn : r.length ≤ 300)
    (k : ∀ H' p, Same H H' → H p = none → EdgesAt t H' p r → Q (.ref p) H') : tMake t.Edges (sp_Edges K t) [] E0 (tCons (tVar 0) tNil) σ H Q := by
  refine ⟨_, h0, fun x dx nx ndx ne => ⟨x, l, dx, r, rfl, upd_same, ?_, hn, fun H' he hb => ⟨rfl, k H' x ?_ nx he⟩⟩⟩
  · refine hrow.same fun b o e => ?_
    rw [upd_ne (ne_of_none e nx), upd_ne (ne_of_none e ndx)]; exact e
  · intro b o e
    exact hb b o (by rw [upd_ne (ne_of_none e nx), upd_ne (ne_of_none e ndx)]; exact e) (ne_of_none e nx)
def rd_is_breaking (K : PySem.W.Frag) (t : Adr) : TS :=
  (tSeq (tAsg (tC (.int 0)) (gName 2))
  (tSeq (tFor (iList K (tVar 1)) (gName 3)
    (tSeq (tIfS (tOr (tNot (tTest (tChain (rI0 fun i j => .bl (decide (i ≤ j))) (rI0 fun i j => .bl (decide (i < j))) (tVar 2) (tVar 3) (tCB (rLen K) (tCons (tVar 0) tNil))))) (tNot (fun σ H Q => (tCall (sp_may_end K t) [] E0 (tCons (tVar 0) (tCons (tVar 3) tNil))) σ H fun x H' => ∃ k, TruV K x H' k ∧ Q k H')))
      (tRet (tC (.bl false)))
      tNext)
    (tAsg (tOp (rI0 fun i j => .int (i + j)) (tVar 3) (tC (.int 1))) (gName 2))))
  (tRet (tOp rEq (tVar 2) (tCB (rLen K) (tCons (tVar 0) tNil))))))
theorem rdok_is_breaking {K : PySem.W.Frag} {t : Adr} (T : Tx K t) {vs : List V} {H : Hp} {Q : VK} {E : XK} (h : sp_is_breaking K t vs H Q E) : rd_is_breaking K t { nx := fun _ H' => Q .non H', rt := Q } (L2.start ["boxes", "ends", "begin", "end"] vs) H := by
  obtain ⟨l, e, r, es, rfl, hrow, g, he, k⟩ := h
  obtain ⟨xs, hx, hr⟩ := id hrow
  unfold rd_is_breaking
  walk_at "rd"
  refine for_l (a := e) (fun R h => ⟨_, rfl, h⟩) (SqL.of he) (fun n σ H2 => H2 = H ∧ ∃ (b : Nat) (v : Option V), σ = [some (.ref l), some (.ref e), some (.int b), v] ∧ BL.brkI r b (es.drop n) = BL.brkI r 0 es) ⟨rfl, 0, _, rfl, rfl⟩ (fun _ _ _ _ w => by rw [w.1]; exact SqL.of he) ?_ ?_
  · rintro n x σ H2 hxn ⟨rfl, b, v, rfl, hb⟩
    obtain ⟨z, hz, rfl⟩ := nv_get hxn
    have hd : es.drop n = z :: es.drop (n + 1) := by rw [List.drop_eq_getElem_cons (List.getElem?_eq_some_iff.mp hz).1, (List.getElem?_eq_some_iff.mp hz).2]
    rw [hd, BL.brkI] at hb
    have bad : BL.brkI r 0 es = false → Q (.bl false) H2 := fun h => by rw [h] at k; exact k
    walk_at "rd"
    by_cases h1 : (b : Int) ≤ z
    · rw [if_pos h1]
      refine ⟨_, .inl (SqL.of hx), ?_⟩
      rw [hr.1]
      by_cases h2 : z < (r.length : Int)
      · rw [if_neg (by simp [h2])]
        obtain ⟨j, rfl⟩ : ∃ j : Nat, z = j := ⟨z.toNat, by omega⟩
        rw [Int.toNat_natCast] at hb
        simp only [h1, h2, decide_true, Bool.true_and] at hb
        refine ⟨l, r, j, rfl, hrow, g, by omega, _, rfl, ?_⟩
        by_cases h3 : Vamati.mayEnd r j = true
        · rw [h3, Bool.true_and] at hb
          rw [h3, if_neg (by decide)]
          exact ⟨rfl, j + 1, _, ⟨rfl, rfl⟩, hb⟩
        · rw [Bool.not_eq_true] at h3
          rw [h3, Bool.false_and] at hb
          rw [h3, if_pos rfl]
          exact bad hb.symm
      · rw [if_pos h2, if_pos trivial]
        exact bad (by rw [← hb]; simp [h2])
    · rw [if_neg h1, if_pos trivial, if_pos trivial]
      exact bad (by rw [← hb]; simp [h1])
  · rintro σ H2 ⟨rfl, b, v, rfl, hb⟩
    rw [nv_len, List.drop_length, BL.brkI] at hb
    walk_at "rd"
    refine ⟨_, .inl (SqL.of hx), ?_⟩
    rw [hr.1]
    have e1 : decide ((b : Int) = (r.length : Int)) = BL.brkI r 0 es := by rw [← hb, decide_eq_decide]; omega
    rw [e1]; exact k
def rd_natural_width (K : PySem.W.Frag) (t : Adr) : TS :=
  (tRet (tIf (fun σ H Q => (tVar 0) σ H fun x H' => ∃ k, TruV K x H' k ∧ Q k H') (tOp (rIxL K) (tFld K (tMake t.Edges (sp_Edges K t) [] E0 (tCons (tVar 0) tNil)) "stops") (tUn (rU fun i => .int (-i)) (tC (.int 1)))) (tC (.int 0))))
theorem rdok_natural_width {K : PySem.W.Frag} {t : Adr} (T : Tx K t) {vs : List V} {H : Hp} {Q : VK} {E : XK} (h : sp_natural_width K t vs H Q E) : rd_natural_width K t { nx := fun _ H' => Q .non H', rt := Q } (L2.start ["boxes"] vs) H := by
  obtain ⟨l, r, rfl, hrow, g, k⟩ := h
  obtain ⟨xs, hx, hr⟩ := id hrow
  unfold rd_natural_width
  walk_at "rd"
  have hlen := hr.1
  by_cases h0 : 0 < r.length
  · refine ⟨true, .inl ⟨xs, SqL.of hx, ?_⟩, ?_⟩
    · cases xs with
      | nil => simp at hlen; omega
      | cons => rfl
    · rw [if_pos rfl]
      refine make_edges rfl hrow g.few fun H' p s1 hp ⟨dx, b, s, tb, ts, e1, e2, e3, e4, e5⟩ => ?_
      refine ⟨p, t.Edges, dx, _, _, rfl, e1, T.cls, T.nstops, efs_stops .., s, rfl, _, SqL.of e3, .int (BL.stp r (r.length - 1)), ?_, ?_⟩
      · rw [atI_neg1 (by rw [nv_len, upto_len]; exact h0), nv_len, upto_len]
        exact nv_at (upto_get _ (by omega))
      · rw [BL.natural_row h0] at k
        exact k H' s1
  · have e : r = [] := List.eq_nil_of_length_eq_zero (by omega)
    subst e
    have ex : xs = [] := List.eq_nil_of_length_eq_zero (by simpa using hlen)
    subst ex
    exact ⟨false, .inl ⟨[], SqL.of hx, rfl⟩, k H (Same.refl H)⟩
/-- what the greedy line knows ahead of the item i + n -/
def GI (r : Row) (m : Measure) (i n : Nat) (ch : V) : Prop := (ch = .non ∧ ∀ e, i ≤ e → e < i + n → Vamati.mayEnd r e = false) ∨ ∃ c : Nat, ch = .int c ∧ i ≤ c ∧ c < i + n ∧ Vamati.mayEnd r c = true ∧ (∀ e, c < e → e < i + n → Vamati.mayEnd r e = false) ∧
  (Vamati.overOf (Vamati.roomOf m i) (Vamati.slice r i c) = 0 ∨ ∀ e, i ≤ e → e < c → Vamati.mayEnd r e = false)
def rd_greedy_line (K : PySem.W.Frag) (t : Adr) : TS :=
  (tSeq (tAsg (tOp (rI0 fun i j => .int (i + j)) (tOp (rIxL K) (tFld K (tVar 1) "tight_begins") (tVar 2)) (tVar 3)) (gName 4))
  (tSeq (tAsg (tC .non) (gName 5))
  (tSeq (tFor (iRng2 (tCons (tVar 2) (tCons (tCB (rLen K) (tCons (tVar 0) tNil)) tNil))) (gName 6)
    (tIfS (fun σ H Q => (tCall (sp_may_end K t) [] E0 (tCons (tVar 0) (tCons (tVar 6) tNil))) σ H fun x H' => ∃ k, TruV K x H' k ∧ Q k H')
      (tSeq (tIfS (tAnd (tTest (tOp rNotN (tVar 5) (tC .non))) (tTest (tOp (rI0 fun i j => .bl (decide (j < i))) (tOp (rIxL K) (tFld K (tVar 1) "tight_stops") (tVar 6)) (tVar 4))))
        tBreak
        tNext)
      (tAsg (tVar 6) (gName 5)))
      tNext))
  (tRet (tVar 5)))))
theorem rdok_greedy_line {K : PySem.W.Frag} {t : Adr} (T : Tx K t) {vs : List V} {H : Hp} {Q : VK} {E : XK} (h : sp_greedy_line K t vs H Q E) : rd_greedy_line K t { nx := fun _ H' => Q .non H', rt := Q } (L2.start ["boxes", "edges", "begin", "room", "tight_limit", "chosen", "end"] vs) H := by
  obtain ⟨l, p, r, m, i, rfl, hrow, ⟨dx, b, s, tb, ts, hp, hb, hs, htb, hts⟩, g, hi, k⟩ := h
  obtain ⟨xs, hx, hr⟩ := id hrow
  have few := g.few
  have hlen := hr.1
  unfold rd_greedy_line
  walk_at "rd"
  refine ⟨_, rfl, p, t.Edges, dx, _, _, rfl, hp, T.cls, T.ntbegins, efs_tbegins .., tb, rfl, _, SqL.of htb, .int (BL.tbeg r i), atI_nat (nv_at (upto_get _ hi)), _, rfl, ?_⟩
  refine for_r2 (i0 := i) (j := xs.length) (fun R h => ⟨_, rfl, _, rfl, l, xs, rfl, .inl (SqL.of hx), h⟩) (by omega) (fun n σ H2 => H2 = H ∧ ∃ (ch : V) (v : Option V), σ = [some (.ref l), some (.ref p), some (.int i), some (.int (Vamati.roomOf m i)), some (.int (BL.tbeg r i + Vamati.roomOf m i)), some ch, v] ∧ GI r m i n ch) ⟨rfl, .non, _, rfl, .inl ⟨rfl, fun e h1 h2 => by omega⟩⟩ ?_ ?_
  · rintro n σ H2 hn ⟨rfl, ch, v, rfl, hG⟩
    have hin : i + n < r.length := by omega
    have ei : ((i : Int) + (n : Int)) = ((i + n : Nat) : Int) := by omega
    rw [ei]
    walk_at "rd"
    refine ⟨l, r, i + n, rfl, hrow, g, hin, _, rfl, ?_⟩
    by_cases h3 : Vamati.mayEnd r (i + n) = true
    · rw [h3, if_pos rfl]
      rcases hG with ⟨rfl, hnone⟩ | ⟨c, rfl, c1, c2, c3, c4, c5⟩
      · rw [if_neg (by decide)]
        exact ⟨rfl, _, _, ⟨rfl, rfl⟩, .inr ⟨i + n, rfl, by omega, by omega, h3, fun e h1 h2 => by omega, .inr fun e h1 h2 => hnone e h1 h2⟩⟩
      · rw [if_pos (by simp)]
        refine ⟨_, rfl, p, t.Edges, dx, _, _, rfl, hp, T.cls, T.ntstops, efs_tstops .., ts, rfl, _, SqL.of hts, .int (BL.tstp r (i + n)), atI_nat (nv_at (upto_get _ hin)), _, rfl, ?_⟩
        by_cases h4 : BL.tbeg r i + Vamati.roomOf m i < BL.tstp r (i + n)
        · rw [if_pos h4]
          have e := BL.greedy_is (m := m) c1 (by omega) c3 (fun e h1 h2 h5 => by
            rcases Nat.lt_or_ge e (i + n) with z | z
            · rw [c4 e h1 z] at h5; cases h5
            · exact BL.over_later g (by omega) h2 z h4) c5
          rw [e] at k
          exact k
        · rw [if_neg h4]
          exact ⟨rfl, _, _, ⟨rfl, rfl⟩, .inr ⟨i + n, rfl, by omega, by omega, h3, fun e h1 h2 => by omega, .inl ((BL.over_iff (by omega) hin).mpr (by omega))⟩⟩
    · rw [Bool.not_eq_true] at h3
      rw [h3, if_neg (by decide)]
      refine ⟨rfl, ch, _, ⟨rfl, rfl⟩, ?_⟩
      rcases hG with ⟨rfl, hnone⟩ | ⟨c, rfl, c1, c2, c3, c4, c5⟩
      · refine .inl ⟨rfl, fun e h1 h2 => ?_⟩
        rcases Nat.lt_or_ge e (i + n) with z | z
        · exact hnone e h1 z
        · rw [show e = i + n by omega]; exact h3
      · refine .inr ⟨c, rfl, c1, by omega, c3, fun e h1 h2 => ?_, c5⟩
        rcases Nat.lt_or_ge e (i + n) with z | z
        · exact c4 e h1 z
        · rw [show e = i + n by omega]; exact h3
  · rintro σ H2 ⟨rfl, ch, v, rfl, hG⟩
    walk_at "rd"
    have e1 : i + ((xs.length : Int) - (i : Int)).toNat = r.length := by omega
    unfold GI at hG
    rw [e1] at hG
    rcases hG with ⟨rfl, hnone⟩ | ⟨c, rfl, c1, c2, c3, c4, c5⟩
    · have := hnone (r.length - 1) (by omega) (by omega)
      rw [BL.mayEnd_last (by omega)] at this
      cases this
    · have e := BL.greedy_is (m := m) c1 c2 c3 (fun e h1 h2 h5 => by rw [c4 e h1 h2] at h5; cases h5) c5
      rw [e] at k
      exact k
def rd_narrowest_measure (K : PySem.W.Frag) (t : Adr) : TS :=
  (tSeq (tAsg (tMake t.Edges (sp_Edges K t) [] E0 (tCons (tVar 0) tNil)) (gName 1))
  (tSeq (tAsg (tC (.int 0)) (gName 2))
  (tSeq (tAsg (tC (.int 0)) (gName 3))
  (tSeq (tFor (iRng1 (tCons (tCB (rLen K) (tCons (tVar 0) tNil)) tNil)) (gName 4)
    (tIfS (fun σ H Q => (tCall (sp_may_end K t) [] E0 (tCons (tVar 0) (tCons (tVar 4) tNil))) σ H fun x H' => ∃ k, TruV K x H' k ∧ Q k H')
      (tSeq (tAsg (tCB rMax2 (tCons (tVar 2) (tCons (tOp (rI0 fun i j => .int (i - j)) (tOp (rIxL K) (tFld K (tVar 1) "tight_stops") (tVar 4)) (tOp (rIxL K) (tFld K (tVar 1) "tight_begins") (tVar 3))) tNil))) (gName 2))
      (tAsg (tOp (rI0 fun i j => .int (i + j)) (tVar 4) (tC (.int 1))) (gName 3)))
      tNext))
  (tRet (tVar 2))))))
theorem rdok_narrowest_measure {K : PySem.W.Frag} {t : Adr} (T : Tx K t) {vs : List V} {H : Hp} {Q : VK} {E : XK} (h : sp_narrowest_measure K t vs H Q E) : rd_narrowest_measure K t { nx := fun _ H' => Q .non H', rt := Q } (L2.start ["boxes", "edges", "widest", "begin", "end"] vs) H := by
  obtain ⟨l, r, rfl, hrow, g, k⟩ := h
  have few := g.few
  rw [BL.narrow_eq] at k
  unfold rd_narrowest_measure
  walk_at "rd"
  refine make_edges rfl hrow g.few fun H1 p s1 hp0 ⟨dx, b, s, tb, ts, hp, hb, hs, htb, hts⟩ => ?_
  have hrow1 := hrow.same s1
  obtain ⟨xs, hx, hr⟩ := id hrow1
  have hlen := hr.1
  refine for_r1 (j := xs.length) (fun R h => ⟨_, rfl, l, xs, rfl, .inl (SqL.of hx), h⟩) (by omega) (by omega) (fun n σ H2 => H2 = H1 ∧ ∃ (w : Int) (c : Nat) (v : Option V), σ = [some (.ref l), some (.ref p), some (.int w), some (.int c), v] ∧ c ≤ n ∧
    ((Vamati.linesOf c (BL.endsFrom r n)).map (BL.tightOf r)).foldl (fun (m : Int) x => max m x) w = ((Vamati.linesOf 0 (BL.endsFrom r 0)).map (BL.tightOf r)).foldl (fun (m : Int) x => max m x) 0) ⟨rfl, 0, 0, _, rfl, Nat.le_refl _, rfl⟩ ?_ ?_
  · rintro n σ H2 hn ⟨rfl, w, c, v, rfl, hc, hw⟩
    have hin : n < r.length := by omega
    have ei : ((0 : Int) + (n : Int)) = (n : Int) := by omega
    rw [ei]
    rw [BL.endsFrom_step hin] at hw
    walk_at "rd"
    refine ⟨l, r, n, rfl, hrow1, g, hin, _, rfl, ?_⟩
    by_cases h3 : Vamati.mayEnd r n = true
    · rw [h3, if_pos rfl] at hw ⊢
      refine ⟨_, rfl, p, t.Edges, dx, _, _, rfl, hp, T.cls, T.ntstops, efs_tstops .., ts, rfl, _, SqL.of hts, .int (BL.tstp r n), atI_nat (nv_at (upto_get _ hin)), ?_⟩
      refine ⟨_, rfl, p, t.Edges, dx, _, _, rfl, hp, T.cls, T.ntbegins, efs_tbegins .., tb, rfl, _, SqL.of htb, .int (BL.tbeg r c), atI_nat (nv_at (upto_get _ (by omega))), ?_⟩
      refine ⟨_, rfl, _, rfl, _, _, ⟨rfl, rfl⟩, rfl, _, n + 1, _, ⟨rfl, rfl, rfl⟩, Nat.le_refl _, ?_⟩
      rw [← hw]
      show _ = List.foldl (fun (m : Int) x => max m x) (max w (BL.tightOf r (c, n))) (List.map (BL.tightOf r) (Vamati.linesOf (n + 1) (BL.endsFrom r (n + 1))))
      have et : BL.tightOf r (c, n) = BL.tstp r n - BL.tbeg r c := BL.tight_slice hc hin
      have em : (if BL.tstp r n - BL.tbeg r c > w then BL.tstp r n - BL.tbeg r c else w) = max w (BL.tightOf r (c, n)) := by
        rw [et]; split <;> omega
      rw [em]
    · rw [Bool.not_eq_true] at h3
      rw [h3, if_neg (by decide)] at hw ⊢
      exact ⟨rfl, w, c, _, ⟨rfl, rfl, rfl⟩, by omega, hw⟩
  · rintro σ H2 ⟨rfl, w, c, v, rfl, hc, hw⟩
    rw [Int.toNat_natCast, hlen, BL.endsFrom_end] at hw
    walk_at "rd"
    rw [← hw] at k
    exact k _ s1
/-! ### the best breaking -/
def rd_best_breaking (K : PySem.W.Frag) (t : Adr) : TS :=
  (tSeq (tAsg (tMake t.Edges (sp_Edges K t) [] E0 (tCons (tVar 0) tNil)) (gName 2))
  (tSeq (tAsg (tOp (rI0 fun i j => .int (i - j)) (tCB (rLen K) (tCons (tVar 0) tNil)) (tC (.int 1))) (gName 3))
  (tSeq (tAsg (tOp rRep (tLst (tCons (tVar 3) tNil)) (tCB (rLen K) (tCons (tVar 0) tNil))) (gName 4))
  (tSeq (tAsg (tOp rRep (tLst (tCons (tC (.int (1))) tNil)) (tCB (rLen K) (tCons (tVar 0) tNil))) (gName 5))
  (tSeq (tAsg (tLst (tCons (tVar 3) tNil)) (gName 6))
  (tSeq (tAsg (tC (.int 0)) (gName 7))
  (tSeq (tFor (iRng3 (tCons (tVar 3) (tCons (tUn (rU fun i => .int (-i)) (tC (.int 1))) (tCons (tUn (rU fun i => .int (-i)) (tC (.int 1))) tNil)))) (gName 8)
    (tSeq (tIfS (tAnd (tTest (tOp (rI0 fun i j => .bl (decide (i < j))) (tVar 8) (tVar 3))) (fun σ H Q => (tCall (sp_may_end K t) [] E0 (tCons (tVar 0) (tCons (tVar 8) tNil))) σ H fun x H' => ∃ k, TruV K x H' k ∧ Q k H'))
      (tSeq (tAsg (tOp rCat (tLst (tCons (tVar 8) tNil)) (tVar 6)) (gName 6))
      (tAsg (tOp (rI0 fun i j => .int (i + j)) (tOp (rI0 fun i j => .int (i + j)) (tC (.int (1))) (tOp (rI CMul fun i j => .int (i * j)) (tOp (rIxT K) (tOp (rIxL K) (tVar 0) (tVar 8)) (tC (.int (6)))) (tC (.int (1000))))) (tVar 7)) (gSub (tVar 5) (tVar 8) rSetL)))
      tNext)
    (tSeq (tAsg (tCall (sp_best_line K t) [] E0 (tCons (tVar 2) (tCons (tVar 8) (tCons (tMeth t.Measure "room_at" (sp_Measure_room_at K t) [] E0 (tVar 1) (tCons (tVar 8) tNil)) (tCons (tVar 6) (tCons (tVar 5) tNil)))))) (gName 9))
    (tSeq (tAsg (tOp (rIxT K) (tVar 9) (tC (.int 0))) (gName 7))
    (tAsg (tOp (rIxT K) (tVar 9) (tC (.int 1))) (gSub (tVar 4) (tVar 8) rSetL))))))
  (tRet (tCall (sp_follow K t) [] E0 (tCons (tVar 4) tNil))))))))))
theorem room_at {K : PySem.W.Frag} {t : Adr} {σ : St} {H : Hp} {Q : VK} {n k i : Nat} {p : Addr} {m : Measure} (hp : σ[n]? = some (some (.ref p))) (hi : σ[k]? = some (some (.int (i : Nat)))) (hm : MeasAt t H p m) (q : Q (.int (Vamati.roomOf m i)) H) :
    tMeth t.Measure "room_at" (sp_Measure_room_at K t) [] E0 (tVar n) (tCons (tVar k) tNil) σ H Q := by
  obtain ⟨dx, e⟩ := hm
  exact ⟨_, hp, p, dx, _, rfl, e, mfs_none m (by decide +kernel) (by decide +kernel) (by decide +kernel), _, hi, p, m, i, rfl, ⟨dx, e⟩, q⟩
theorem indent_at {K : PySem.W.Frag} {t : Adr} {σ : St} {H : Hp} {Q : VK} {n k i : Nat} {p : Addr} {m : Measure} (hp : σ[n]? = some (some (.ref p))) (hi : σ[k]? = some (some (.int (i : Nat)))) (hm : MeasAt t H p m) (q : Q (.int (Vamati.indentOf m i)) H) :
    tMeth t.Measure "indent_at" (sp_Measure_indent_at K t) [] E0 (tVar n) (tCons (tVar k) tNil) σ H Q := by
  obtain ⟨dx, e⟩ := hm
  exact ⟨_, hp, p, dx, _, rfl, e, mfs_none m (by decide +kernel) (by decide +kernel) (by decide +kernel), _, hi, p, m, i, rfl, ⟨dx, e⟩, q⟩
/-- between two turns: the items from i on are done -/
structure BBs (H1 H2 : Hp) (le rs es : Addr) (r : Row) (m : Measure) (i : Nat) : Prop where
  same : Same H1 H2
  fle : H1 le = none
  frs : H1 rs = none
  lers : le ≠ rs
  esle : es ≠ le
  esrs : es ≠ rs
  leEx : ∃ zs, H2 le = some (.lst (nv zs)) ∧ Lends r m i zs
  rsEx : ∃ zs, H2 rs = some (.lst (nv zs)) ∧ zs.length = r.length ∧ ∀ j, (i ≤ j ∨ j + 1 = r.length) → j < r.length → Vamati.mayEnd r j = true → zs[j]? = some (BL.rst r m j)
  esEx : H2 es = some (.lst (nv (if r.length = 0 then [-1] else ends_ r (min i (r.length - 1)))))
def bbSt (l mp p le rs es : Addr) (r : Row) (m : Measure) (i : Nat) (v1 v2 : Option V) : St :=
  [some (.ref l), some (.ref mp), some (.ref p), some (.int ((r.length : Int) - 1)), some (.ref le), some (.ref rs), some (.ref es), some (.int (BL.wt (BL.B r m i).worth)), v1, v2]
def BBW (H1 : Hp) (l mp p le rs : Addr) (r : Row) (m : Measure) (k : Nat) (σ : St) (H2 : Hp) : Prop :=
  ∃ (es : Addr) (v1 v2 : Option V), BBs H1 H2 le rs es r m (r.length - k) ∧ σ = bbSt l mp p le rs es r m (r.length - k) v1 v2
def rd_bb_rest (K : PySem.W.Frag) (t : Adr) : TS :=
  (tSeq (tAsg (tCall (sp_best_line K t) [] E0 (tCons (tVar 2) (tCons (tVar 8) (tCons (tMeth t.Measure "room_at" (sp_Measure_room_at K t) [] E0 (tVar 1) (tCons (tVar 8) tNil)) (tCons (tVar 6) (tCons (tVar 5) tNil)))))) (gName 9))
  (tSeq (tAsg (tOp (rIxT K) (tVar 9) (tC (.int 0))) (gName 7))
  (tAsg (tOp (rIxT K) (tVar 9) (tC (.int 1))) (gSub (tVar 4) (tVar 8) rSetL))))
theorem But.list {l q : Addr} {H H' : Hp} {xs : List V} (k : But l H H') (hq : q ≠ l) (h : H q = some (.lst xs)) : H' q = some (.lst xs) := k _ _ h hq
theorem bb_rest {K : PySem.W.Frag} {t : Adr} (T : Tx K t) {D : Ends} {H1 H3 : Hp} {l mp p le rs es : Addr} {r : Row} {m : Measure} {i k : Nat} {w : Int} {v2 : Option V} (g : BL.Good r) (gm : BL.GoodM m) (hE : EdgesAt t H1 p r) (hmp : MeasAt t H1 mp m) (hi : i < r.length) (hk : r.length - (k + 1) = i)
    (hs : Same H1 H3) (fle : H1 le = none) (frs : H1 rs = none) (lers : le ≠ rs) (esle : es ≠ le) (esrs : es ≠ rs) (hle : ∃ zs, H3 le = some (.lst (nv zs)) ∧ Lends r m (i + 1) zs) (hrs : ∃ zs, H3 rs = some (.lst (nv zs)) ∧ zs.length = r.length ∧ ∀ j, (i ≤ j ∨ j + 1 = r.length) → j < r.length → Vamati.mayEnd r j = true → zs[j]? = some (BL.rst r m j))
    (hes : H3 es = some (.lst (nv (ends_ r i)))) (hD : ∀ σ H, BBW H1 l mp p le rs r m (k + 1) σ H → D.nx σ H) :
    rd_bb_rest K t D [some (.ref l), some (.ref mp), some (.ref p), some (.int ((r.length : Int) - 1)), some (.ref le), some (.ref rs), some (.ref es), some (.int w), some (.int i), v2] H3 := by
  obtain ⟨zs, hle, hL⟩ := hle
  obtain ⟨ys, hrs, hyl, hY⟩ := hrs
  have call : sp_best_line K t [.ref p, .int i, .int (Vamati.roomOf m i), .ref es, .ref rs] H3 (fun x H4 => ∃ q, x = .ref q ∧ ∃ xs, SqT K H4 q xs ∧ ∃ y, atI xs 0 = some y ∧ ∃ q', x = .ref q' ∧ ∃ xs', SqT K H4 q' xs' ∧ ∃ y', atI xs' 1 = some y' ∧ ∃ zs', H4 le = some (.lst zs') ∧ ∃ j, ixN zs'.length (i : Int) = some j ∧
      D.nx [some (.ref l), some (.ref mp), some (.ref p), some (.int ((r.length : Int) - 1)), some (.ref le), some (.ref rs), some (.ref es), some y, some (.int i), some x] (upd H4 le (.lst (zs'.set j y')))) E0 := by
    refine ⟨p, es, rs, i, r, m, ys, rfl, hE.same hs, hes, hrs, ⟨hyl, fun j hj => ?_⟩, hi, g, gm, fun H4 d s4 hd hd4 => ?_⟩
    · obtain ⟨a1, a2, a3⟩ := BL.mem_endsFrom.mp hj
      exact hY j (.inl a1) a2 a3
    · have hle4 := s4 _ _ hle
      refine ⟨d, rfl, _, SqT.of hd4, _, rfl, d, rfl, _, SqT.of hd4, _, rfl, _, hle4, i, ixN_nat (by rw [nv_len, hL.len]; exact hi), hD _ _ ⟨es, _, _, ?_, by rw [hk]; rfl⟩⟩
      rw [hk]
      have hset : (nv zs).set i (V.int (BL.nxt r m i)) = nv (zs.set i (BL.nxt r m i : Nat)) := by unfold nv; rw [List.map_set]
      rw [hset]
      refine ⟨fun b o e => by rw [upd_ne (ne_of_none e fle)]; exact s4 _ _ (hs _ _ e), fle, frs, lers, esle, esrs, ⟨_, upd_same, ⟨by rw [List.length_set]; exact hL.len, fun j h1 h2 => ?_⟩⟩, ⟨ys, by rw [upd_ne lers.symm]; exact s4 _ _ hrs, hyl, hY⟩, ?_⟩
      · rw [List.getElem?_set]
        by_cases e : i = j
        · subst e
          rw [if_pos rfl, if_pos (by rw [hL.len]; exact hi)]
        · rw [if_neg e]
          exact hL.at_ j (by omega) h2
      · rw [upd_ne esle, s4 _ _ hes, if_neg (by omega), Nat.min_eq_left (by omega)]
  unfold rd_bb_rest
  walk_at "rd"
  exact room_at rfl rfl (hmp.same hs) call
theorem endsFrom_last {r : Row} (h : 0 < r.length) : BL.endsFrom r (r.length - 1) = [r.length - 1] := by
  unfold BL.endsFrom
  rw [show r.length - (r.length - 1) = 1 by omega, List.range'_one]
  simp [BL.mayEnd_last (show r.length - 1 + 1 = r.length by omega)]
theorem endsFrom_step {r : Row} {i : Nat} (h : i < r.length) : BL.endsFrom r i = if Vamati.mayEnd r i = true then i :: BL.endsFrom r (i + 1) else BL.endsFrom r (i + 1) := by
  unfold BL.endsFrom
  obtain ⟨k, hk⟩ : ∃ k, r.length - i = k + 1 := ⟨r.length - i - 1, by omega⟩
  rw [hk, List.range'_succ, List.filter_cons, show r.length - (i + 1) = k by omega]
theorem rep_nv (n : Nat) (z : Int) : (List.replicate n [V.int z]).flatten = nv (List.replicate n z) := by
  unfold nv
  rw [List.map_replicate, List.flatten_replicate_singleton]
theorem rdok_best_breaking {K : PySem.W.Frag} {t : Adr} (T : Tx K t) {vs : List V} {H : Hp} {Q : VK} {E : XK} (h : sp_best_breaking K t vs H Q E) :
    rd_best_breaking K t { nx := fun _ H' => Q .non H', rt := Q } (L2.start ["boxes", "measure", "edges", "last", "line_ends", "rests", "ends", "weight", "begin", "choice"] vs) H := by
  obtain ⟨l, mp, r, m, rfl, hrow, hmp, g, gm, k⟩ := h
  obtain ⟨xs, hx, hr⟩ := id hrow
  have few := g.few
  have hz : (sizeLine : Nat) = 16777216 := sizeLine_eq
  unfold rd_best_breaking
  walk_at "rd"
  simp only [tMake]
  walk_at "rd"
  intro p dx hp hdx hne
  refine ⟨p, l, dx, r, rfl, upd_same, hrow.same (fun b o e => by rw [upd_ne (ne_of_none e hp), upd_ne (ne_of_none e hdx)]; exact e), few, fun H1 hE kp => ?_⟩
  have s1 : Same H H1 := Same.made hp hdx kp
  refine ⟨rfl, _, .inl (SqL.of (s1 _ _ hx)), one_le, fun a ha => ?_⟩
  rw [hr.1]
  have s2 := s1.trans (same_new (o := .lst [V.int ((r.length : Int) - 1)]) ha)
  refine ⟨_, .inl (SqL.of (s2 _ _ hx)), a, (r.length : Int), _, rfl, by rw [hr.1], upd_same, by omega, by omega, by rw [hz, Int.toNat_natCast, List.length_singleton]; omega, fun le hle => ?_⟩
  rw [Int.toNat_natCast, rep_nv] 
  have s3 := s2.trans (same_new (o := .lst (nv (List.replicate r.length ((r.length : Int) - 1)))) hle)
  refine ⟨one_le, fun c hc => ?_⟩
  have s4 := s3.trans (same_new (o := .lst [V.int 1]) hc)
  refine ⟨_, .inl (SqL.of (s4 _ _ hx)), c, (r.length : Int), _, rfl, by rw [hr.1], upd_same, by omega, by omega, by rw [hz, Int.toNat_natCast, List.length_singleton]; omega, fun rs hrs => ?_⟩
  rw [Int.toNat_natCast, rep_nv] 
  have s5 := s4.trans (same_new (o := .lst (nv (List.replicate r.length 1))) hrs)
  refine ⟨one_le, fun es hes => ?_⟩
  have s6 := s5.trans (same_new (o := .lst [V.int ((r.length : Int) - 1)]) hes)
  have t1 : Same H1 _ := (same_new (o := .lst [V.int ((r.length : Int) - 1)]) ha).trans ((same_new (o := .lst (nv (List.replicate r.length ((r.length : Int) - 1)))) hle).trans ((same_new (o := .lst [V.int 1]) hc).trans ((same_new (o := .lst (nv (List.replicate r.length 1))) hrs).trans (same_new (o := .lst [V.int ((r.length : Int) - 1)]) hes))))
  have hle2 := ((same_new (o := .lst [V.int 1]) hc).trans ((same_new (o := .lst (nv (List.replicate r.length 1))) hrs).trans (same_new (o := .lst [V.int ((r.length : Int) - 1)]) hes))) _ _ (upd_same (a := le))
  have hrs2 := (same_new (o := .lst [V.int ((r.length : Int) - 1)]) hes) _ _ (upd_same (a := rs))
  have lers : le ≠ rs := ne_of_none ((same_new (o := .lst [V.int 1]) hc) _ _ (upd_same (a := le))) hrs
  generalize hG : upd _ es _ = G at t1 s6 hle2 hrs2 ⊢
  have hesG : G es = some (.lst [V.int ((r.length : Int) - 1)]) := by rw [← hG]; exact upd_same
  have esle : es ≠ le := (ne_of_none ((same_new (o := .lst [V.int 1]) hc).trans (same_new (o := .lst (nv (List.replicate r.length 1))) hrs) _ _ (upd_same (a := le))) hes).symm
  have esrs : es ≠ rs := (ne_of_none (upd_same (a := rs)) hes).symm
  have b0 : BBs H1 G le rs es r m (r.length - 0) := by
    refine ⟨t1, (same_new ha).free hle, ((same_new ha).trans ((same_new hle).trans (same_new hc))).free hrs, lers, esle, esrs, ⟨_, hle2, by simp, fun j h1 h2 => by omega⟩, ⟨_, hrs2, by simp, fun j h1 h2 h3 => ?_⟩, ?_⟩
    · have e : j + 1 = r.length := by omega
      unfold BL.rst
      rw [if_pos e, List.getElem?_replicate, if_pos h2]
    · rw [hesG]
      by_cases h0 : r.length = 0
      · rw [if_pos h0, h0]; rfl
      · rw [if_neg h0, Nat.sub_zero, Nat.min_eq_right (by omega)]
        unfold ends_
        rw [endsFrom_last (by omega)]
        show _ = some (HO.lst [V.int ((r.length - 1 : Nat) : Int)])
        rw [show ((r.length - 1 : Nat) : Int) = (r.length : Int) - 1 by omega]
  have w0 : BL.wt (BL.B r m (r.length - 0)).worth = 0 := by rw [Nat.sub_zero, BL.B_len]; rfl
  clear hG
  refine for_r3 (i0 := (r.length : Int) - 1) (j := -1) (c := -1) (n := r.length) (fun R h => ⟨_, rfl, _, rfl, _, rfl, h⟩) ?_ (BBW H1 l mp p le rs r m) ⟨es, none, none, b0, by unfold bbSt; rw [w0]⟩ ?_ ?_
  · have := RgC.neg (i := (r.length : Int) - 1) (j := -1) (by omega) (by omega) (by omega) (by omega)
    rwa [show ((r.length : Int) - 1 - -1).toNat = r.length by omega] at this
  · rintro k' σ H2 hk ⟨es2, v1, v2, b, rfl⟩
    obtain ⟨i, hi⟩ : ∃ i, i = r.length - (k' + 1) := ⟨_, rfl⟩
    have hil : i < r.length := by omega
    have hbeg : (r.length : Int) - 1 + (k' : Nat) * (-1) = (i : Nat) := by omega
    have hik : r.length - k' = i + 1 := by omega
    have rest := fun {D H3 es3 w v2} => @bb_rest K t T D H1 H3 l mp p le rs es3 r m i k' w v2 g gm hE (hmp.same s1) hil hi.symm
    rw [hik] at b ⊢
    rw [hbeg]
    have hxi : ∃ q, xs[i]? = some (.ref q) ∧ SqT K H2 q (nv (numbersOf r[i])) := by
      have hxl : i < xs.length := by rw [hr.1]; exact hil
      obtain ⟨q, e, hq⟩ := hr.2 i xs[i] r[i] (List.getElem?_eq_getElem hxl) (List.getElem?_eq_getElem hil)
      exact ⟨q, by rw [List.getElem?_eq_getElem hxl, e], Same.sqT (s1.trans b.same) hq⟩
    obtain ⟨q, hxq, hq⟩ := hxi
    obtain ⟨zs, hz1, hL⟩ := b.leEx
    obtain ⟨ys, hy1, hyl, hY⟩ := b.rsEx
    have hes := b.esEx
    rw [if_neg (show ¬ r.length = 0 by omega)] at hes
    have hx2 := b.same _ _ (s1 _ _ hx)
    show tSeq _ (rd_bb_rest K t) _ _ _
    generalize rd_bb_rest K t = RR at rest ⊢
    unfold bbSt
    walk_at "rd"
    have me := BL.mayEnd_iff g hil
    have hrow2 := hrow.same (s1.trans b.same)
    by_cases hlast : i + 1 < r.length
    · rw [if_pos (by omega)]
      refine ⟨l, r, i, rfl, hrow2, g, hil, _, rfl, ?_⟩
      rw [Nat.min_eq_left (by omega)] at hes
      by_cases hyes : Vamati.mayEnd r i = true
      case neg =>
        rw [Bool.not_eq_true] at hyes
        have hno := hyes
        rw [hno, if_neg (by decide)]
        have ee : ends_ r i = ends_ r (i + 1) := by unfold ends_; rw [endsFrom_step hil, hno]; rfl
        refine rest b.same b.fle b.frs b.lers b.esle b.esrs ⟨zs, hz1, hL⟩ ⟨ys, hy1, hyl, fun j h1 h2 h3 => hY j ?_ h2 h3⟩ (by rw [ee]; exact hes) fun σ H z => z
        by_cases e : i = j
        · subst e; rw [hno] at h3; cases h3
        · omega
      case pos =>
        rw [hyes, if_pos rfl]
        have ee : ends_ r i = (i : Int) :: ends_ r (i + 1) := by unfold ends_; rw [endsFrom_step hil, hyes]; rfl
        refine ⟨one_le, fun a1 ha1 => ?_⟩
        have u1 := same_new (o := .lst [V.int (i : Int)]) ha1
        have hel : (nv (ends_ r (i + 1))).length ≤ 300 := by
          rw [nv_len]
          unfold ends_ BL.endsFrom
          rw [List.length_map]
          have := List.length_filter_le (Vamati.mayEnd r) (List.range' (i + 1) (r.length - (i + 1)))
          rw [List.length_range'] at this
          omega
        refine ⟨a1, es2, _, _, rfl, rfl, upd_same, u1 _ _ hes, by rw [List.length_singleton]; omega, fun es3 hes3 => ?_⟩
        have u2 := u1.trans (same_new (o := .lst ([V.int (i : Int)] ++ nv (ends_ r (i + 1)))) hes3)
        have hy2 := u2 _ _ hy1
        have cb := g.at_ hil
        refine ⟨_, SqL.of (u2 _ _ hx2), _, atI_nat hxq, q, rfl, _, Same.sqT u2 hq, .int r[i].cost, rfl, _, rfl, .inr ⟨by decide, by decide⟩, _, hy2, i, ixN_nat (by rw [nv_len, hyl]; exact hil), ?_⟩
        have erst : (1 : Int) + r[i].cost * 1000 + BL.wt (BL.B r m (i + 1)).worth = BL.rst r m i := by
          unfold BL.rst
          rw [if_neg (by omega), List.getElem?_eq_getElem hil]; rfl
        have hset : (nv ys).set i (V.int (BL.rst r m i)) = nv (ys.set i (BL.rst r m i)) := by unfold nv; rw [List.map_set]
        rw [erst, hset]
        have n1 : es3 ≠ rs := (ne_of_none (u1 _ _ hy1) hes3).symm
        have n2 : es3 ≠ le := (ne_of_none (u1 _ _ hz1) hes3).symm
        refine rest (fun c o e => by rw [upd_ne (ne_of_none e b.frs)]; exact u2 _ _ (b.same _ _ e)) b.fle b.frs b.lers n2 n1 ⟨zs, by rw [upd_ne b.lers]; exact u2 _ _ hz1, hL⟩ ⟨_, upd_same, by rw [List.length_set]; exact hyl, fun j h1 h2 h3 => ?_⟩ ?_ fun σ H z => z
        · rw [List.getElem?_set]
          by_cases e : i = j
          · subst e
            rw [if_pos rfl, if_pos (by rw [hyl]; exact hil)]
          · rw [if_neg e]
            exact hY j (by omega) h2 h3
        · rw [upd_ne n1, upd_same, ee]
          rfl
    · rw [if_neg (by omega), if_neg (by decide)]
      have el : i + 1 = r.length := by omega
      have em : min (i + 1) (r.length - 1) = i := by omega
      rw [em] at hes
      exact rest b.same b.fle b.frs b.lers b.esle b.esrs ⟨zs, hz1, hL⟩ ⟨ys, hy1, hyl, fun j h1 h2 h3 => hY j (by omega) h2 h3⟩ hes fun σ H z => z
  · rintro σ H2 ⟨es2, v1, v2, b, rfl⟩
    unfold bbSt
    rw [Nat.sub_self] at b ⊢
    walk_at "rd"
    obtain ⟨zs, hz1, hL⟩ := b.leEx
    exact ⟨le, r, m, zs, rfl, hz1, hL, g, gm, fun H3 e s3 he he3 => k _ e ((s1.trans b.same).trans s3) ((s1.trans b.same).free he) he3⟩
/-! ### the greedy breaking -/
def GW (H : Hp) (l mp p d : Addr) (r : Row) (m : Measure) (n : Nat) (σ : St) (H2 : Hp) : Prop := ∃ (i k : Nat) (done : List Nat) (v : Option V), n = r.length - i ∧ i ≤ r.length ∧ r.length ≤ i + k ∧ done.length + k ≤ r.length ∧
  σ = [some (.ref l), some (.ref mp), some (.ref p), some (.ref d), some (.int i), v] ∧ Same H H2 ∧ H2 d = some (.lst (nv (Vamati.nats done))) ∧ done ++ Vamati.greedyFrom r m k i = Vamati.greedyFrom r m r.length 0
def rd_greedy_breaking (K : PySem.W.Frag) (t : Adr) : TS :=
  (tSeq (tAsg (tMake t.Edges (sp_Edges K t) [] E0 (tCons (tVar 0) tNil)) (gName 2))
  (tSeq (tAsg (tLst tNil) (gName 3))
  (tSeq (tAsg (tC (.int 0)) (gName 4))
  (tSeq (tWhile (tTest (tOp (rI0 fun i j => .bl (decide (i < j))) (tVar 4) (tCB (rLen K) (tCons (tVar 0) tNil))))
    (tSeq (tAsg (tCall (sp_greedy_line K t) [] E0 (tCons (tVar 0) (tCons (tVar 2) (tCons (tVar 4) (tCons (tMeth t.Measure "room_at" (sp_Measure_room_at K t) [] E0 (tVar 1) (tCons (tVar 4) tNil)) tNil))))) (gName 5))
    (tSeq (tDrop (tBM K "list" rAppend (tVar 3) (tCons (tVar 5) tNil)))
    (tAsg (tOp (rI0 fun i j => .int (i + j)) (tVar 5) (tC (.int 1))) (gName 4)))))
  (tRet (tVar 3))))))
theorem rdok_greedy_breaking {K : PySem.W.Frag} {t : Adr} (T : Tx K t) {vs : List V} {H : Hp} {Q : VK} {E : XK} (h : sp_greedy_breaking K t vs H Q E) : rd_greedy_breaking K t { nx := fun _ H' => Q .non H', rt := Q } (L2.start ["boxes", "measure", "edges", "ends", "begin", "end"] vs) H := by
  obtain ⟨l, mp, r, m, rfl, hrow, hmp, g, k⟩ := h
  have few := g.few
  unfold rd_greedy_breaking
  walk_at "rd"
  refine make_edges rfl hrow few fun H1 p s1 hp hE => ?_
  refine ⟨Nat.zero_le _, fun d hd => ?_⟩
  have s0 := same_new (o := .lst []) hd
  refine while_w (GW H1 l mp p d r m) _ ⟨0, r.length, [], _, rfl, Nat.zero_le _, by omega, by simp, rfl, s0, upd_same, rfl⟩ ?_
  rintro n σ H2 ⟨i, f, done, v, rfl, hi, hf, hdl, rfl, hs, hd2, hdone⟩
  have hrow2 := hrow.same (s1.trans hs)
  obtain ⟨xs, hx, hr⟩ := id hrow2
  walk_at "rd"
  refine ⟨_, .inl (SqL.of hx), ?_⟩
  rw [hr.1]
  by_cases hlt : i < r.length
  · rw [if_pos (by omega)]
    refine ⟨fun σ' H' => ∃ m', m' < r.length - i ∧ GW H1 l mp p d r m m' σ' H', fun σ' H' q => q, ?_⟩
    refine room_at rfl rfl (hmp.same (s1.trans hs)) ?_
    walk_at "rd"
    obtain ⟨j1, j2⟩ := BL.greedy_in m hlt
    refine ⟨l, p, r, m, i, rfl, hrow2, hE.same hs, g, hlt, .inl ⟨rfl, _, SqL.of hd2⟩, _, hd2, ?_, ?_⟩
    · unfold Vamati.nats
      rw [nv_len, List.length_map, sizeLine_eq]
      omega
    · obtain ⟨f', rfl⟩ : ∃ f', f = f' + 1 := ⟨f - 1, by omega⟩
      refine ⟨_, rfl, r.length - (Vamati.greedyEnd r m i + 1), by omega, Vamati.greedyEnd r m i + 1, f', done ++ [Vamati.greedyEnd r m i], _, rfl, by omega, by omega, by rw [List.length_append, List.length_singleton]; omega, rfl, ?_, ?_, ?_⟩
      · exact fun b o e => by rw [upd_ne (ne_of_none e hd)]; exact hs b o e
      · rw [upd_same]
        unfold Vamati.nats nv
        rw [List.map_append, List.map_append]; rfl
      · rw [← hdone, List.append_assoc]
        have e : Vamati.greedyFrom r m (f' + 1) i = Vamati.greedyEnd r m i :: Vamati.greedyFrom r m f' (Vamati.greedyEnd r m i + 1) := by
          show (if r.length ≤ i then [] else _) = _
          rw [if_neg (by omega)]
        rw [e]; rfl
  · rw [if_neg (by omega)]
    have e : Vamati.greedyFrom r m f i = [] := by
      cases f with
      | zero => rfl
      | succ f =>
        show (if r.length ≤ i then [] else _) = _
        rw [if_pos (by omega)]
    rw [e, List.append_nil] at hdone
    rw [hdone] at hd2
    exact k H2 d (s1.trans hs) (s1.free hd) hd2
/-! ### comprehensions of numbers -/
theorem comp_core {K : PySem.W.Frag} {σ : St} {H : Hp} {Q : VK} {s : Nat} {b : Addr} {te : TE} {xs : List V} {ns : List Int} (hb : SqL K H b xs) (hlen : xs.length = ns.length) (hsz : ns.length ≤ 100000) (hs : s < σ.length)
    (step : ∀ (i : Nat) (x : V) (z : Int) (σ' : St) (H' : Hp) (R : VK), xs[i]? = some x → ns[i]? = some z → σ'[s]? = some (some x) → Same H H' → R (.int z) H' → te σ' H' R)
    (k : ∀ D H', Same H H' → H D = none → H' D = some (.lst (nv ns)) → Q (.ref D) H') : tLc (iList K (tC (.ref b))) (gName s) tYes te [s] σ H Q := by
  refine ⟨b, rfl, ⟨_, hb⟩, fun D hD => ?_⟩
  refine lc_list (xs := xs) (fun i H' => Same H H' ∧ H' D = some (.lst (nv (ns.take i)))) ⟨same_new hD, by rw [upd_same]; rfl⟩ (fun i H' _ q => q.1.seq hb) ?_ ?_
  · rintro i x H' hxi ⟨hs1, hD1⟩
    have hi : i < ns.length := by rw [← hlen]; exact (List.getElem?_eq_some_iff.mp hxi).1
    have hz : ns[i]? = some ns[i] := List.getElem?_eq_getElem hi
    refine ⟨?_, ?_⟩
    · show ((σ.set s none).set s (some x)).set s none = σ.set s none
      rw [List.set_set, List.set_set]
    · unfold tYes
      simp only [if_true]
      refine step i x ns[i] _ H' _ hxi hz ?_ hs1 ⟨_, hD1, ?_, ?_, ?_⟩
      · show ((σ.set s none).set s (some x))[s]? = some (some x)
        rw [List.getElem?_set, if_pos rfl, if_pos (by rw [List.length_set]; exact hs)]
      · rw [nv_len, List.length_take, sizeLine_eq]; omega
      · exact fun c o e => by rw [upd_ne (ne_of_none e hD)]; exact hs1 c o e
      · rw [upd_same, nv_snoc, List.take_succ_eq_append_getElem hi]
  · rintro H' ⟨hs1, hD1⟩
    rw [hlen, List.take_length] at hD1
    exact k D H' hs1 hD hD1
theorem comp_sum {K : PySem.W.Frag} {σ : St} {H : Hp} {Q : VK} {s n : Nat} {b : Addr} {te : TE} {xs : List V} {ns : List Int} (hn : σ[n]? = some (some (.ref b))) (hb : SqL K H b xs) (hlen : xs.length = ns.length) (hsz : ns.length ≤ 100000) (hs : s < σ.length)
    (step : ∀ (i : Nat) (x : V) (z : Int) (σ' : St) (H' : Hp) (R : VK), xs[i]? = some x → ns[i]? = some z → σ'[s]? = some (some x) → Same H H' → R (.int z) H' → te σ' H' R)
    (k : ∀ H', Same H H' → Q (.int (Vamati.sum ns)) H') : tCB (rSum K) (tCons (tLc (iList K (tVar n)) (gName s) tYes te [s]) tNil) σ H Q :=
  ⟨_, hn, comp_core (Q := fun v H1 => rSum K [v] H1 Q) hb hlen hsz hs step fun D H' s1 _ h => ⟨D, ns, rfl, SqL.of h, by rw [BL.lsum_eq]; exact k H' s1⟩⟩
theorem comp_max {K : PySem.W.Frag} {σ : St} {H : Hp} {Q : VK} {s n : Nat} {b : Addr} {te : TE} {xs : List V} {ns : List Int} (hn : σ[n]? = some (some (.ref b))) (hb : SqL K H b xs) (hlen : xs.length = ns.length) (hsz : ns.length ≤ 100000) (hne : 0 < ns.length) (hs : s < σ.length)
    (step : ∀ (i : Nat) (x : V) (z : Int) (σ' : St) (H' : Hp) (R : VK), xs[i]? = some x → ns[i]? = some z → σ'[s]? = some (some x) → Same H H' → R (.int z) H' → te σ' H' R)
    (k : ∀ H' M, Same H H' → M ∈ ns → (∀ y ∈ ns, y ≤ M) → Q (.int M) H') : tCB (rMax K) (tCons (tLc (iList K (tVar n)) (gName s) tYes te [s]) tNil) σ H Q :=
  ⟨_, hn, comp_core (Q := fun v H1 => rMax K [v] H1 Q) hb hlen hsz hs step fun D H' s1 _ h => ⟨D, ns, rfl, SqL.of h, hne, fun M h1 h2 => k H' M s1 h1 h2⟩⟩
/-- box[c] of the items of a row -/
theorem item_step {K : PySem.W.Frag} {H : Hp} {s c : Nat} {xs : List V} {q : Row} {f : Item → Int} (hf : ∀ a, (numbersOf a)[c]? = some (f a)) (hr : RowIs K H xs q) :
    ∀ (i : Nat) (x : V) (z : Int) (σ' : St) (H' : Hp) (R : VK), xs[i]? = some x → (q.map f)[i]? = some z → σ'[s]? = some (some x) → Same H H' → R (.int z) H' → tOp (rIxT K) (tVar s) (tC (.int c)) σ' H' R := by
  intro i x z σ' H' R hx hz hs h1 hR
  rw [List.getElem?_map] at hz
  cases e : q[i]? with
  | none => rw [e] at hz; cases hz
  | some a =>
    rw [e] at hz
    obtain ⟨p, rfl, hp⟩ := hr.2 i x a hx e
    exact ⟨_, hs, p, _, c, .int (f a), rfl, rfl, Same.sqT h1 hp, atI_nat (nv_at (hf a)), by rw [Option.some.inj hz]; exact hR⟩
theorem cutV_nat (xs : List V) {x y : Nat} (hx : x ≤ y) (hy : y ≤ xs.length) : cutV xs (some (x : Int)) (some (y : Int)) = (xs.drop x).take (y - x) := by
  unfold cutV
  have e1 : HT.sIx xs.length 0 (some (x : Int)) = x := by unfold HT.sIx; simp only; split <;> omega
  have e2 : HT.sIx xs.length xs.length (some (y : Int)) = y := by unfold HT.sIx; simp only; split <;> omega
  rw [e1, e2]
theorem slice_dt (r : Row) (i j : Nat) : Vamati.slice r i j = (r.drop i).take (j + 1 - i) := by unfold Vamati.slice; rw [List.drop_take]
theorem inner_dt {r : Row} {i j : Nat} (hi : i ≤ j) (hj : j < r.length) : Vamati.inner (Vamati.slice r i j) = (r.drop i).take (j - i) := by rw [BL.inner_slice hi hj, List.drop_take]
/-! ### a line is made -/
structure LC where
  l : Addr
  q : Addr
  ia : Addr
  sa : Addr
  r : Row
  m : Measure
  i : Nat
  j : Nat
  xs : List V
  xi : List V
  xj : List V
structure LB (K : PySem.W.Frag) (t : Adr) (H : Hp) (c : LC) : Prop where
  hx : H c.l = some (.lst c.xs)
  hr : RowIs K H c.xs c.r
  hm : MeasAt t H c.q c.m
  hi : H c.ia = some (.lst c.xi)
  ri : RowIs K H c.xi (Vamati.slice c.r c.i c.j)
  hs : H c.sa = some (.lst c.xj)
  rs : RowIs K H c.xj (Vamati.inner (Vamati.slice c.r c.i c.j))
theorem LB.same {K : PySem.W.Frag} {t : Adr} {H H' : Hp} {c : LC} (s : Same H H') (b : LB K t H c) : LB K t H' c := ⟨s _ _ b.hx, b.hr.same s, b.hm.same s, s _ _ b.hi, b.ri.same s, s _ _ b.hs, b.rs.same s⟩
theorem RowIs.rest {K : PySem.W.Frag} {H H' : Hp} {xs : List V} {r : Row} {p C dx : Addr} {fs : List (Str × V)} (k : Rest p H H') (hp : H p = some (.ins C dx fs)) (h : RowIs K H xs r) : RowIs K H' xs r :=
  ⟨h.1, fun i x a hx ha => let ⟨p, e, q⟩ := h.2 i x a hx ha; ⟨p, e, base_sqT k hp q⟩⟩
structure LI (K : PySem.W.Frag) (t : Adr) (H0 H : Hp) (p dx : Addr) (fs : List (Str × V)) (c : LC) : Prop where
  ip : H p = some (.ins t.Line dx fs)
  rest : Rest p H0 H
  lb : LB K t H c
  qp : c.q ≠ p
theorem LI.set {K : PySem.W.Frag} {t : Adr} {H0 H H' : Hp} {p dx : Addr} {fs fs' : List (Str × V)} {c : LC} (L : LI K t H0 H p dx fs c) (s : Same H H') : LI K t H0 (upd H' p (.ins t.Line dx fs')) p dx fs' c := by
  have hp := s _ _ L.ip
  have b := L.lb.same s
  have k : Rest p H' (upd H' p (.ins t.Line dx fs')) := fun x o e hx => by rw [upd_ne hx]; exact e
  obtain ⟨dm, hm⟩ := b.hm
  exact ⟨upd_same, fun x o e hx => k x o (s _ _ (L.rest x o e hx)) hx, ⟨k _ _ b.hx (ne_of b.hx hp (by intro z; cases z)), b.hr.rest k hp, ⟨dm, k _ _ hm L.qp⟩, k _ _ b.hi (ne_of b.hi hp (by intro z; cases z)), b.ri.rest k hp, k _ _ b.hs (ne_of b.hs hp (by intro z; cases z)), b.rs.rest k hp⟩, L.qp⟩
theorem ln_set {K : PySem.W.Frag} {t : Adr} {D : Ends} {σ : St} {tv : TE} {tr : TS} {f : Str} {H0 H : Hp} {p dx : Addr} {fs : List (Str × V)} {c : LC} (T : Tx K t) (h0 : σ[0]? = some (some (.ref p))) (L : LI K t H0 H p dx fs c) (na : NoAttr K t.Line f) (hl : fs.length < 1000) {y : V}
    (hv : ∀ Q : VK, (∀ H', Same H H' → Q y H') → tv σ H Q) (k : ∀ H', LI K t H0 H' p dx (putF f y fs) c → tr D σ H') : tSeq (sFld K (tVar 0) tv f) tr D σ H :=
  hv _ fun H' s => ⟨_, h0, p, t.Line, dx, fs, rfl, s _ _ L.ip, T.clsL, na, hl, k _ (L.set s)⟩
local macro_rules | `(tactic| walk_at "lk") => `(tactic| repeat (first | rw [lookup_putF, if_pos rfl] | rw [lookup_putF, if_neg (by decide +kernel)]))
def rd_line_rest (K : PySem.W.Frag) (t : Adr) : TS :=
  (tSeq (sFld K (tVar 0) (tVar 2) "begin")
  (tSeq (sFld K (tVar 0) (tVar 3) "end")
  (tSeq (sFld K (tVar 0) (tOp rEq (tVar 3) (tOp (rI0 fun i j => .int (i - j)) (tCB (rLen K) (tCons (tVar 1) tNil)) (tC (.int 1)))) "is_last")
  (tSeq (sFld K (tVar 0) (tMeth t.Measure "indent_at" (sp_Measure_indent_at K t) [] E0 (tVar 4) (tCons (tVar 2) tNil)) "indent")
  (tSeq (sFld K (tVar 0) (tOp (rI0 fun i j => .int (i + j)) (tCB (rSum K) (tCons (tLc (iList K (tVar 5)) (gName 7) tYes (tOp (rIxT K) (tVar 7) (tC (.int (0)))) [7]) tNil)) (tCB (rSum K) (tCons (tLc (iList K (tVar 6)) (gName 7) tYes (tOp (rIxT K) (tVar 7) (tC (.int (3)))) [7]) tNil))) "natural")
  (tSeq (sFld K (tVar 0) (tCB (rSum K) (tCons (tLc (iList K (tVar 6)) (gName 7) tYes (tOp (rIxT K) (tVar 7) (tC (.int (4)))) [7]) tNil)) "stretch")
  (tSeq (sFld K (tVar 0) (tCB (rSum K) (tCons (tLc (iList K (tVar 6)) (gName 7) tYes (tOp (rIxT K) (tVar 7) (tC (.int (5)))) [7]) tNil)) "shrink")
  (tSeq (sFld K (tVar 0) (tOp (rI0 fun i j => .int (i - j)) (tMeth t.Measure "room_at" (sp_Measure_room_at K t) [] E0 (tVar 4) (tCons (tVar 2) tNil)) (tFld K (tVar 0) "natural")) "slack")
  (tSeq (sFld K (tVar 0) (tCB rMax2 (tCons (tC (.int 0)) (tCons (tOp (rI0 fun i j => .int (i - j)) (tUn (rU fun i => .int (-i)) (tFld K (tVar 0) "slack")) (tFld K (tVar 0) "shrink")) tNil))) "overfull")
  (tSeq (sFld K (tVar 0) (tCB (rMax K) (tCons (tLc (iList K (tVar 5)) (gName 7) tYes (tOp (rIxT K) (tVar 7) (tC (.int (1)))) [7]) tNil)) "height")
  (tSeq (sFld K (tVar 0) (tCB (rMax K) (tCons (tLc (iList K (tVar 5)) (gName 7) tYes (tOp (rIxT K) (tVar 7) (tC (.int (2)))) [7]) tNil)) "depth")
  (tSeq (sFld K (tVar 0) (tIf (tAnd (fun σ H Q => (tFld K (tVar 0) "is_last") σ H fun x H' => ∃ k, TruV K x H' k ∧ Q k H') (tTest (tOp (rI0 fun i j => .bl (decide (j ≤ i))) (tFld K (tVar 0) "slack") (tC (.int 0))))) (tC (.int 0)) (tOp (rI CMul fun i j => .int (i * j)) (tFld K (tVar 0) "slack") (tFld K (tVar 0) "slack"))) "cost")
  (tIfS (tNot (fun σ H Q => (tFld K (tVar 0) "is_last") σ H fun x H' => ∃ k, TruV K x H' k ∧ Q k H'))
    (sFldAug K (tVar 0) (tOp (rIxT K) (tOp (rIxL K) (tVar 1) (tVar 3)) (tC (.int (6)))) rAdd "cost")
    tNext)))))))))))))
/-- self.f read -/
theorem ln_get {K : PySem.W.Frag} {t : Adr} {σ : St} {f : Str} {H0 H : Hp} {p dx : Addr} {fs : List (Str × V)} {c : LC} (T : Tx K t) (h0 : σ[0]? = some (some (.ref p))) (L : LI K t H0 H p dx fs c) (na : NoAttr K t.Line f) {y : V} (hy : fs.lookup f = some y) {Q : VK} (q : Q y H) : tFld K (tVar 0) f σ H Q :=
  ⟨_, h0, p, t.Line, dx, fs, y, rfl, L.ip, T.clsL, na, hy, q⟩
theorem line_rest {K : PySem.W.Frag} {t : Adr} (T : Tx K t) {D : Ends} {H0 : Hp} {p dx : Addr} {c : LC} {v : Option V} (L0 : LI K t H0 H0 p dx [] c) (g : BL.Good c.r) (gm : BL.GoodM c.m) (hij : c.i ≤ c.j) (hj : c.j < c.r.length)
    (k : ∀ σ H', LineAt t H' p c.r c.m (c.i, c.j) → Rest p H0 H' → D.nx σ H') : rd_line_rest K t D [some (.ref p), some (.ref c.l), some (.int c.i), some (.int c.j), some (.ref c.q), some (.ref c.ia), some (.ref c.sa), v] H0 := by
  have few := g.few
  have sl := BL.slice_len hij hj
  have li : (Vamati.inner (Vamati.slice c.r c.i c.j)).length ≤ 300 := by rw [BL.inner_slice hij hj, List.length_drop, List.length_take]; omega
  unfold rd_line_rest
  refine ln_set T rfl L0 T.lbegin (by decide) (y := .int c.i) (fun Q q => ⟨_, rfl, q _ (Same.refl _)⟩) fun H1 L1 => ?_
  refine ln_set T rfl L1 T.lend (putF_lt (n := 999) (by decide)) (y := .int c.j) (fun Q q => ⟨_, rfl, q _ (Same.refl _)⟩) fun H2 L2 => ?_
  refine ln_set T rfl L2 T.lis_last (putF_lt (n := 999) (putF_lt (n := 998) (by decide))) (y := .bl (decide (c.j + 1 = c.r.length))) (fun Q q => ⟨_, rfl, _, rfl, c.l, c.xs, rfl, .inl (SqL.of L2.lb.hx), _, _, rfl, rfl, rfl, ?_⟩) fun H3 L3 => ?_
  · have e : decide (V.int (c.j : Int) = V.int ((c.xs.length : Int) - 1)) = decide (c.j + 1 = c.r.length) := by
      rw [decide_eq_decide, V.int.injEq, L2.lb.hr.1]; omega
    have := q _ (Same.refl H2)
    rwa [← e] at this
  refine ln_set T rfl L3 T.lindent (putF_lt (n := 999) (putF_lt (n := 998) (putF_lt (n := 997) (by decide)))) (y := .int (Vamati.indentOf c.m c.i)) (fun Q q => indent_at rfl rfl L3.lb.hm (q _ (Same.refl _))) fun H4 L4 => ?_
  have lmap : ∀ {xs : List V} {q : Row} {H : Hp} (f : Item → Int), RowIs K H xs q → xs.length = (q.map f).length := fun f h => by rw [List.length_map]; exact h.1
  have z1 : ∀ f : Item → Int, ((Vamati.slice c.r c.i c.j).map f).length ≤ 100000 := fun f => by rw [List.length_map, sl]; omega
  have z2 : ∀ f : Item → Int, ((Vamati.inner (Vamati.slice c.r c.i c.j)).map f).length ≤ 100000 := fun f => by rw [List.length_map]; omega
  refine ln_set T rfl L4 T.lnatural (putF_lt (n := 999) (putF_lt (n := 998) (putF_lt (n := 997) (putF_lt (n := 996) (by decide))))) (y := .int (Vamati.naturalOf (Vamati.slice c.r c.i c.j)))
    (fun Q q => comp_sum rfl (SqL.of L4.lb.hi) (lmap (fun a => a.width) L4.lb.ri) (z1 _) (by show 7 < 8; decide) (item_step (fun a => rfl) L4.lb.ri) fun H' s1 =>
      comp_sum rfl (SqL.of (s1 _ _ L4.lb.hs)) (lmap (fun a => a.space) (L4.lb.rs.same s1)) (z2 _) (by show 7 < 8; decide) (item_step (fun a => rfl) (L4.lb.rs.same s1)) fun H'' s2 => ⟨_, _, rfl, rfl, q _ (s1.trans s2)⟩) fun H5 L5 => ?_
  refine ln_set T rfl L5 T.lstretch (putF_lt (n := 999) (putF_lt (n := 998) (putF_lt (n := 997) (putF_lt (n := 996) (putF_lt (n := 995) (by decide)))))) (y := .int (Vamati.stretchOf (Vamati.slice c.r c.i c.j)))
    (fun Q q => comp_sum rfl (SqL.of L5.lb.hs) (lmap (fun a => a.stretch) L5.lb.rs) (z2 _) (by show 7 < 8; decide) (item_step (fun a => rfl) L5.lb.rs) fun H' s1 => q _ s1) fun H6 L6 => ?_
  refine ln_set T rfl L6 T.lshrink (putF_lt (n := 999) (putF_lt (n := 998) (putF_lt (n := 997) (putF_lt (n := 996) (putF_lt (n := 995) (putF_lt (n := 994) (by decide))))))) (y := .int (Vamati.shrinkOf (Vamati.slice c.r c.i c.j)))
    (fun Q q => comp_sum rfl (SqL.of L6.lb.hs) (lmap (fun a => a.shrink) L6.lb.rs) (z2 _) (by show 7 < 8; decide) (item_step (fun a => rfl) L6.lb.rs) fun H' s1 => q _ s1) fun H7 L7 => ?_
  refine ln_set T rfl L7 T.lslack (putF_lt (n := 999) (putF_lt (n := 998) (putF_lt (n := 997) (putF_lt (n := 996) (putF_lt (n := 995) (putF_lt (n := 994) (putF_lt (n := 993) (by decide)))))))) (y := .int (Vamati.slackOf (Vamati.roomOf c.m c.i) (Vamati.slice c.r c.i c.j)))
    (fun Q q => room_at rfl rfl L7.lb.hm (ln_get T rfl L7 T.lnatural (by walk_at "lk") ⟨_, _, rfl, rfl, q _ (Same.refl _)⟩)) fun H8 L8 => ?_
  refine ln_set T rfl L8 T.loverfull (putF_lt (n := 999) (putF_lt (n := 998) (putF_lt (n := 997) (putF_lt (n := 996) (putF_lt (n := 995) (putF_lt (n := 994) (putF_lt (n := 993) (putF_lt (n := 992) (by decide))))))))) (y := .int (Vamati.overOf (Vamati.roomOf c.m c.i) (Vamati.slice c.r c.i c.j)))
    (fun Q q => ⟨_, rfl, p, t.Line, dx, _, _, rfl, L8.ip, T.clsL, T.lslack, by walk_at "lk", _, rfl, _, rfl, p, t.Line, dx, _, _, rfl, L8.ip, T.clsL, T.lshrink, by walk_at "lk", _, _, rfl, rfl, _, _, rfl, ?_⟩) fun H9 L9 => ?_
  · have e : ∀ n : Int, (if n > 0 then n else 0) = Vamati.atLeast0 n := fun n => by unfold Vamati.atLeast0; split <;> split <;> omega
    rw [e]
    exact q _ (Same.refl _)
  have n1 : ∀ f : Item → Int, 0 < ((Vamati.slice c.r c.i c.j).map f).length := fun f => by rw [List.length_map, sl]; omega
  refine ln_set T rfl L9 T.lheight (putF_lt (n := 999) (putF_lt (n := 998) (putF_lt (n := 997) (putF_lt (n := 996) (putF_lt (n := 995) (putF_lt (n := 994) (putF_lt (n := 993) (putF_lt (n := 992) (putF_lt (n := 991) (by decide)))))))))) (y := .int (Vamati.heightOf (Vamati.slice c.r c.i c.j)))
    (fun Q q => comp_max rfl (SqL.of L9.lb.hi) (lmap (fun a => a.height) L9.lb.ri) (z1 _) (n1 _) (by show 7 < 8; decide) (item_step (fun a => rfl) L9.lb.ri) fun H' M s1 h1 h2 => ?_) fun H10 L10 => ?_
  · rw [← BL.greatest_is h1 h2]; exact q _ s1
  refine ln_set T rfl L10 T.ldepth (putF_lt (n := 999) (putF_lt (n := 998) (putF_lt (n := 997) (putF_lt (n := 996) (putF_lt (n := 995) (putF_lt (n := 994) (putF_lt (n := 993) (putF_lt (n := 992) (putF_lt (n := 991) (putF_lt (n := 990) (by decide))))))))))) (y := .int (Vamati.depthOf (Vamati.slice c.r c.i c.j)))
    (fun Q q => comp_max rfl (SqL.of L10.lb.hi) (lmap (fun a => a.depth) L10.lb.ri) (z1 _) (n1 _) (by show 7 < 8; decide) (item_step (fun a => rfl) L10.lb.ri) fun H' M s1 h1 h2 => ?_) fun H11 L11 => ?_
  · rw [← BL.greatest_is h1 h2]; exact q _ s1
  have es := BL.slack_eq (m := c.m) hij hj
  have sb := BL.slk_bound g gm hij hj
  rw [← es] at sb
  refine ln_set T rfl L11 T.lcost (putF_lt (n := 999) (putF_lt (n := 998) (putF_lt (n := 997) (putF_lt (n := 996) (putF_lt (n := 995) (putF_lt (n := 994) (putF_lt (n := 993) (putF_lt (n := 992) (putF_lt (n := 991) (putF_lt (n := 990) (putF_lt (n := 989) (by decide)))))))))))) (y := .int (if c.j + 1 = c.r.length ∧ 0 ≤ Vamati.slackOf (Vamati.roomOf c.m c.i) (Vamati.slice c.r c.i c.j) then 0 else Vamati.slackOf (Vamati.roomOf c.m c.i) (Vamati.slice c.r c.i c.j) * Vamati.slackOf (Vamati.roomOf c.m c.i) (Vamati.slice c.r c.i c.j)))
    (fun Q q => ⟨_, rfl, p, t.Line, dx, _, .bl (decide (c.j + 1 = c.r.length)), rfl, L11.ip, T.clsL, T.lis_last, by walk_at "lk", decide (c.j + 1 = c.r.length), rfl, ?_⟩) fun H12 L12 => ?_
  · have q0 := q _ (Same.refl H11)
    have sq : ∀ {Q' : VK}, Q' (.int (Vamati.slackOf (Vamati.roomOf c.m c.i) (Vamati.slice c.r c.i c.j) * Vamati.slackOf (Vamati.roomOf c.m c.i) (Vamati.slice c.r c.i c.j))) H11 → tOp (rI CMul fun i j => .int (i * j)) (tFld K (tVar 0) "slack") (tFld K (tVar 0) "slack") [some (.ref p), some (.ref c.l), some (.int c.i), some (.int c.j), some (.ref c.q), some (.ref c.ia), some (.ref c.sa), v] H11 Q' := fun hQ =>
      ln_get T rfl L11 T.lslack (by walk_at "lk") (ln_get T rfl L11 T.lslack (by walk_at "lk") ⟨_, _, rfl, rfl, .inl ⟨by omega, by omega⟩, hQ⟩)
    by_cases hlast : c.j + 1 = c.r.length
    · rw [decide_eq_true hlast]
      simp only [if_true]
      refine ⟨_, rfl, p, t.Line, dx, _, .int (Vamati.slackOf (Vamati.roomOf c.m c.i) (Vamati.slice c.r c.i c.j)), rfl, L11.ip, T.clsL, T.lslack, by walk_at "lk", _, _, rfl, rfl, _, rfl, ?_⟩
      by_cases h0 : 0 ≤ Vamati.slackOf (Vamati.roomOf c.m c.i) (Vamati.slice c.r c.i c.j)
      · rw [if_pos ⟨hlast, h0⟩] at q0
        rw [decide_eq_true h0]
        simp only [if_true]
        exact q0
      · rw [if_neg (fun z => h0 z.2)] at q0
        rw [decide_eq_false h0]
        simp only [Bool.false_eq_true, if_false]
        exact sq q0
    · rw [if_neg (fun z => hlast z.1)] at q0
      rw [decide_eq_false hlast]
      simp only [Bool.false_eq_true, if_false]
      exact sq q0
  have ce := BL.cost_eq (m := c.m) hij hj
  rw [← es] at ce
  refine ⟨_, rfl, p, t.Line, dx, _, .bl (decide (c.j + 1 = c.r.length)), rfl, L12.ip, T.clsL, T.lis_last, by walk_at "lk", decide (c.j + 1 = c.r.length), rfl, ?_⟩
  by_cases hlast : c.j + 1 = c.r.length
  · rw [if_pos hlast] at ce
    rw [decide_eq_true hlast]
    simp only [Bool.not_true, Bool.false_eq_true, if_false]
    refine k _ _ ⟨dx, _, L12.ip, ⟨by walk_at "lk", by walk_at "lk", by walk_at "lk", by walk_at "lk", by walk_at "lk", by walk_at "lk", by walk_at "lk", by walk_at "lk", by walk_at "lk", by walk_at "lk", by walk_at "lk", ?_⟩⟩ L12.rest
    walk_at "lk"
    rw [ce]
    congr 2
    split <;> split <;> first | rfl | omega
  · rw [if_neg hlast] at ce
    rw [decide_eq_false hlast]
    simp only [Bool.not_false, if_true]
    obtain ⟨a, ha, hq⟩ := L12.lb.hr.item hj
    refine ⟨_, rfl, p, t.Line, dx, _, .int (if c.j + 1 = c.r.length ∧ 0 ≤ Vamati.slackOf (Vamati.roomOf c.m c.i) (Vamati.slice c.r c.i c.j) then 0 else Vamati.slackOf (Vamati.roomOf c.m c.i) (Vamati.slice c.r c.i c.j) * Vamati.slackOf (Vamati.roomOf c.m c.i) (Vamati.slice c.r c.i c.j)), rfl, L12.ip, T.clsL, T.lcost, by walk_at "lk", _, rfl, _, rfl, c.l, c.xs, c.j, .ref a, rfl, rfl, SqL.of L12.lb.hx, atI_nat ha, a, _, 6, .int c.r[c.j].cost, rfl, rfl, hq, rfl, _, _, rfl, rfl, dx, _, L12.ip, ?_, ?_⟩
    · exact putF_lt (n := 999) (putF_lt (n := 998) (putF_lt (n := 997) (putF_lt (n := 996) (putF_lt (n := 995) (putF_lt (n := 994) (putF_lt (n := 993) (putF_lt (n := 992) (putF_lt (n := 991) (putF_lt (n := 990) (putF_lt (n := 989) (putF_lt (n := 988) (by decide))))))))))))
    · have L13 := fun fs' => L12.set (fs' := fs') (Same.refl H12)
      refine k _ _ ⟨dx, _, upd_same, ⟨by walk_at "lk", by walk_at "lk", by walk_at "lk", by walk_at "lk", by walk_at "lk", by walk_at "lk", by walk_at "lk", by walk_at "lk", by walk_at "lk", by walk_at "lk", by walk_at "lk", ?_⟩⟩ (L13 _).rest
      walk_at "lk"
      rw [ce, if_neg (fun z => hlast z.1)]
def rd_Line_init (K : PySem.W.Frag) (t : Adr) : TS :=
  (tSeq (tAsg (tSl (rSlL K) (tVar 1) (tPart (tVar 2)) (tPart (tOp (rI0 fun i j => .int (i + j)) (tVar 3) (tC (.int 1))))) (gName 5))
  (tSeq (tAsg (tSl (rSlL K) (tVar 1) (tPart (tVar 2)) (tPart (tVar 3))) (gName 6))
  (tSeq (sFld K (tVar 0) (tVar 2) "begin")
  (tSeq (sFld K (tVar 0) (tVar 3) "end")
  (tSeq (sFld K (tVar 0) (tOp rEq (tVar 3) (tOp (rI0 fun i j => .int (i - j)) (tCB (rLen K) (tCons (tVar 1) tNil)) (tC (.int 1)))) "is_last")
  (tSeq (sFld K (tVar 0) (tMeth t.Measure "indent_at" (sp_Measure_indent_at K t) [] E0 (tVar 4) (tCons (tVar 2) tNil)) "indent")
  (tSeq (sFld K (tVar 0) (tOp (rI0 fun i j => .int (i + j)) (tCB (rSum K) (tCons (tLc (iList K (tVar 5)) (gName 7) tYes (tOp (rIxT K) (tVar 7) (tC (.int (0)))) [7]) tNil)) (tCB (rSum K) (tCons (tLc (iList K (tVar 6)) (gName 7) tYes (tOp (rIxT K) (tVar 7) (tC (.int (3)))) [7]) tNil))) "natural")
  (tSeq (sFld K (tVar 0) (tCB (rSum K) (tCons (tLc (iList K (tVar 6)) (gName 7) tYes (tOp (rIxT K) (tVar 7) (tC (.int (4)))) [7]) tNil)) "stretch")
  (tSeq (sFld K (tVar 0) (tCB (rSum K) (tCons (tLc (iList K (tVar 6)) (gName 7) tYes (tOp (rIxT K) (tVar 7) (tC (.int (5)))) [7]) tNil)) "shrink")
  (tSeq (sFld K (tVar 0) (tOp (rI0 fun i j => .int (i - j)) (tMeth t.Measure "room_at" (sp_Measure_room_at K t) [] E0 (tVar 4) (tCons (tVar 2) tNil)) (tFld K (tVar 0) "natural")) "slack")
  (tSeq (sFld K (tVar 0) (tCB rMax2 (tCons (tC (.int 0)) (tCons (tOp (rI0 fun i j => .int (i - j)) (tUn (rU fun i => .int (-i)) (tFld K (tVar 0) "slack")) (tFld K (tVar 0) "shrink")) tNil))) "overfull")
  (tSeq (sFld K (tVar 0) (tCB (rMax K) (tCons (tLc (iList K (tVar 5)) (gName 7) tYes (tOp (rIxT K) (tVar 7) (tC (.int (1)))) [7]) tNil)) "height")
  (tSeq (sFld K (tVar 0) (tCB (rMax K) (tCons (tLc (iList K (tVar 5)) (gName 7) tYes (tOp (rIxT K) (tVar 7) (tC (.int (2)))) [7]) tNil)) "depth")
  (tSeq (sFld K (tVar 0) (tIf (tAnd (fun σ H Q => (tFld K (tVar 0) "is_last") σ H fun x H' => ∃ k, TruV K x H' k ∧ Q k H') (tTest (tOp (rI0 fun i j => .bl (decide (j ≤ i))) (tFld K (tVar 0) "slack") (tC (.int 0))))) (tC (.int 0)) (tOp (rI CMul fun i j => .int (i * j)) (tFld K (tVar 0) "slack") (tFld K (tVar 0) "slack"))) "cost")
  (tIfS (tNot (fun σ H Q => (tFld K (tVar 0) "is_last") σ H fun x H' => ∃ k, TruV K x H' k ∧ Q k H'))
    (sFldAug K (tVar 0) (tOp (rIxT K) (tOp (rIxL K) (tVar 1) (tVar 3)) (tC (.int (6)))) rAdd "cost")
    tNext)))))))))))))))
theorem rdok_Line_init {K : PySem.W.Frag} {t : Adr} (T : Tx K t) {vs : List V} {H : Hp} {Q : VK} {E : XK} (h : sp_Line K t vs H Q E) : rd_Line_init K t { nx := fun _ H' => Q .non H', rt := Q } (L2.start ["self", "boxes", "begin", "end", "measure", "boxes_inside", "spaced", "box"] vs) H := by
  obtain ⟨p, dx, l, q, r, m, i, j, rfl, hp, ⟨xs, hx, hr⟩, hm, g, gm, hij, hj, k⟩ := h
  have hlen := hr.1
  have rest := fun {D H0 c v} => @line_rest K t T D H0 p dx c v
  show tSeq _ (tSeq _ (rd_line_rest K t)) _ _ _
  generalize rd_line_rest K t = RR at rest ⊢
  walk_at "rd"
  refine ⟨_, SqL.of hx, fun ia hia => ⟨_, SqL.of (by rw [upd_ne (ne_of_none hx hia)]; exact hx), fun sa hsa => ?_⟩⟩
  have ej : (j : Int) + 1 = ((j + 1 : Nat) : Int) := by omega
  rw [ej, cutV_nat xs (by omega) (by omega)] at hsa ⊢
  rw [cutV_nat xs hij (by omega)]
  have s1 := same_new (o := .lst ((xs.drop i).take (j + 1 - i))) hia
  have s2 := same_new (o := .lst ((xs.drop i).take (j - i))) hsa
  have s := s1.trans s2
  have hr0 := hr.same s
  have hqp : q ≠ p := by
    obtain ⟨dm, e⟩ := hm
    refine ne_of e hp fun z => ?_
    injection z with _ _ h3
    have := mfs_width m
    rw [h3] at this
    cases this
  exact rest (c := ⟨l, q, ia, sa, r, m, i, j, xs, (xs.drop i).take (j + 1 - i), (xs.drop i).take (j - i)⟩) ⟨s _ _ hp, fun b o e _ => e, ⟨s _ _ hx, hr0, hm.same s, s2 _ _ upd_same, by rw [slice_dt]; exact (hr0.drop i).take _, upd_same, by rw [inner_dt hij hj]; exact (hr0.drop i).take _⟩, hqp⟩ g gm hij hj
    fun σ H' hL hR => k H' hL fun b o e hb => hR b o (s _ _ e) hb
/-! ### lines of a breaking -/
theorem LineAt.same {t : Adr} {H H' : Hp} {p : Addr} {r : Row} {m : Measure} {q : Nat × Nat} (s : Same H H') (h : LineAt t H p r m q) : LineAt t H' p r m q := let ⟨dx, fs, e, f⟩ := h; ⟨dx, fs, s _ _ e, f⟩
theorem LinesIs.same {t : Adr} {H H' : Hp} {xs : List V} {r : Row} {m : Measure} {ls : List (Nat × Nat)} (s : Same H H') (h : LinesIs t H xs r m ls) : LinesIs t H' xs r m ls :=
  ⟨h.1, fun k x p hx hp => let ⟨a, e, q⟩ := h.2 k x p hx hp; ⟨a, e, q.same s⟩⟩
theorem LinesAt.same {t : Adr} {H H' : Hp} {d : Addr} {r : Row} {m : Measure} {ls : List (Nat × Nat)} (s : Same H H') (h : LinesAt t H d r m ls) : LinesAt t H' d r m ls := let ⟨xs, e, q⟩ := h; ⟨xs, s _ _ e, q.same s⟩
theorem LinesIs.but {t : Adr} {H H' : Hp} {xs ys : List V} {r : Row} {m : Measure} {ls : List (Nat × Nat)} {d : Addr} (k : But d H H') (hd : H d = some (.lst ys)) (h : LinesIs t H xs r m ls) : LinesIs t H' xs r m ls :=
  ⟨h.1, fun i x p hx hp => let ⟨a, e, dx, fs, q, f⟩ := h.2 i x p hx hp; ⟨a, e, dx, fs, k _ _ q (ne_of q hd (by intro z; cases z)), f⟩⟩
theorem LinesIs.snoc {t : Adr} {H : Hp} {xs : List V} {r : Row} {m : Measure} {ls : List (Nat × Nat)} {a : Addr} {p : Nat × Nat} (h : LinesIs t H xs r m ls) (hp : LineAt t H a r m p) : LinesIs t H (xs ++ [.ref a]) r m (ls ++ [p]) := by
  refine ⟨by simp [h.1], fun k x q hx hq => ?_⟩
  by_cases hk : k < xs.length
  · rw [List.getElem?_append_left hk] at hx
    rw [List.getElem?_append_left (by rw [← h.1]; exact hk)] at hq
    exact h.2 k x q hx hq
  · rw [List.getElem?_append_right (by omega)] at hx
    rw [List.getElem?_append_right (by rw [← h.1]; omega), ← h.1] at hq
    have hj0 : k - xs.length = 0 := by
      rcases Nat.eq_zero_or_pos (k - xs.length) with z | z
      · exact z
      · rw [List.getElem?_eq_none (by simp; omega)] at hx; cases hx
    rw [hj0] at hx hq
    have e1 : V.ref a = x := by simpa using hx
    have e2 : p = q := by simpa using hq
    subst e1 e2
    exact ⟨a, rfl, hp⟩
theorem make_line {K : PySem.W.Frag} {t : Adr} {σ : St} {H : Hp} {Q : VK} {l q : Addr} {r : Row} {m : Measure} {b j : Nat} (h0 : σ[0]? = some (some (.ref l))) (h4 : σ[4]? = some (some (.int b))) (h5 : σ[5]? = some (some (.int j))) (h2 : σ[2]? = some (some (.ref q)))
    (hrow : RowAt K H l r) (hm : MeasAt t H q m) (g : BL.Good r) (gm : BL.GoodM m) (hij : b ≤ j) (hj : j < r.length) (k : ∀ H' x, Same H H' → H x = none → LineAt t H' x r m (b, j) → Q (.ref x) H') :
    tMake t.Line (sp_Line K t) [] E0 (tCons (tVar 0) (tCons (tVar 4) (tCons (tVar 5) (tCons (tVar 2) tNil)))) σ H Q := by
  refine ⟨_, h0, _, h4, _, h5, _, h2, fun x dx nx ndx ne => ?_⟩
  have s : Same H (upd (upd H dx (.own x)) x (.ins t.Line dx [])) := fun b o e => by rw [upd_ne (ne_of_none e nx), upd_ne (ne_of_none e ndx)]; exact e
  exact ⟨x, dx, l, q, r, m, b, j, rfl, upd_same, hrow.same s, hm.same s, g, gm, hij, hj, fun H' hL hR => ⟨rfl, k H' x (fun b o e => hR b o (s _ _ e) (ne_of_none e nx)) nx hL⟩⟩
def SLW (K : PySem.W.Frag) (t : Adr) (H : Hp) (l e q d : Addr) (r : Row) (m : Measure) (es : List Nat) (n : Nat) (σ : St) (H2 : Hp) : Prop :=
  Same H H2 ∧ ∃ (b : Nat) (v : Option V) (xs : List V) (done : List (Nat × Nat)), σ = [some (.ref l), some (.ref e), some (.ref q), some (.ref d), some (.int b), v] ∧ H2 d = some (.lst xs) ∧ LinesIs t H2 xs r m done ∧ Vamati.isBreaking r b (es.drop n) = true ∧ done ++ Vamati.linesOf b (es.drop n) = Vamati.linesOf 0 es
def rd_set_lines (K : PySem.W.Frag) (t : Adr) : TS :=
  (tSeq (tAsg (tLst tNil) (gName 3))
  (tSeq (tAsg (tC (.int 0)) (gName 4))
  (tSeq (tFor (iList K (tVar 1)) (gName 5)
    (tSeq (tDrop (tBM K "list" rAppend (tVar 3) (tCons (tMake t.Line (sp_Line K t) [] E0 (tCons (tVar 0) (tCons (tVar 4) (tCons (tVar 5) (tCons (tVar 2) tNil))))) tNil)))
    (tAsg (tOp (rI0 fun i j => .int (i + j)) (tVar 5) (tC (.int 1))) (gName 4))))
  (tRet (tVar 3)))))
theorem rdok_set_lines {K : PySem.W.Frag} {t : Adr} (T : Tx K t) {vs : List V} {H : Hp} {Q : VK} {E : XK} (h : sp_set_lines K t vs H Q E) : rd_set_lines K t { nx := fun _ H' => Q .non H', rt := Q } (L2.start ["boxes", "ends", "measure", "lines", "begin", "end"] vs) H := by
  obtain ⟨l, e, q, r, m, es, rfl, hrow, he, hm, g, gm, hb, k⟩ := h
  have few := g.few
  have hlen := BL.breaks_len es 0 hb
  have hll := BL.linesOf_len 0 es
  unfold rd_set_lines
  walk_at "rd"
  refine ⟨Nat.zero_le _, fun d hd => ?_⟩
  have s0 := same_new (o := .lst []) hd
  refine for_l (a := e) (fun R h => ⟨_, rfl, h⟩) (SqL.of (s0 _ _ he)) (SLW K t H l e q d r m es) ⟨s0, 0, _, [], [], rfl, upd_same, ⟨rfl, fun k x p h => by simp at h⟩, hb, rfl⟩ (fun _ _ _ _ w => SqL.of (w.1 _ _ he)) ?_ ?_
  · rintro n x σ H2 hxn ⟨hs, b, v, xs, done, rfl, hd2, hL, hbr, hdone⟩
    obtain ⟨j, hj, rfl⟩ : ∃ j, es[n]? = some j ∧ x = .int (j : Nat) := by
      obtain ⟨z, hz, rfl⟩ := nv_get hxn
      unfold Vamati.nats at hz
      rw [List.getElem?_map] at hz
      cases w : es[n]? with
      | none => rw [w] at hz; cases hz
      | some j => rw [w] at hz; exact ⟨j, rfl, by rw [← Option.some.inj hz]; rfl⟩
    have hdr : es.drop n = j :: es.drop (n + 1) := by rw [List.drop_eq_getElem_cons (List.getElem?_eq_some_iff.mp hj).1, (List.getElem?_eq_some_iff.mp hj).2]
    rw [hdr] at hbr hdone
    obtain ⟨b1, b2, b3, b4⟩ := BL.isB_cons hbr
    walk_at "rd"
    refine ⟨.inl ⟨rfl, _, SqL.of hd2⟩, ?_⟩
    refine make_line rfl rfl rfl rfl (hrow.same hs) (hm.same hs) g gm b1 b2 fun H3 x s3 hx3 hLx => ?_
    have hd3 := s3 _ _ hd2
    have dlen := congrArg List.length hdone
    rw [List.length_append, hll] at dlen
    refine ⟨_, hd3, by rw [hL.1, sizeLine_eq]; omega, ?_⟩
    have kk : But d H3 (upd H3 d (.lst (xs ++ [V.ref x]))) := but_set
    refine ⟨fun c o ec => by rw [upd_ne (ne_of_none ec hd)]; exact s3 _ _ (hs _ _ ec), j + 1, _, _, done ++ [(b, j)], rfl, upd_same, ((hL.same s3).snoc hLx).but kk hd3, b4, ?_⟩
    rw [← hdone, List.append_assoc]; rfl
  · rintro σ H2 ⟨hs, b, v, xs, done, rfl, hd2, hL, hbr, hdone⟩
    have e1 : (nv (Vamati.nats es)).length = es.length := by unfold Vamati.nats; rw [nv_len, List.length_map]
    rw [e1, List.drop_length] at hdone
    have e2 : done = Vamati.linesOf 0 es := by rw [← hdone]; exact (List.append_nil _).symm
    subst e2
    walk_at "rd"
    exact k H2 d hs hd ⟨xs, hd2, hL⟩
/-- line.f of the lines -/
theorem line_step {K : PySem.W.Frag} {t : Adr} (T : Tx K t) {H : Hp} {s : Nat} {xs : List V} {r : Row} {m : Measure} {ls : List (Nat × Nat)} {f : Str} {F : Nat × Nat → Int} (na : NoAttr K t.Line f) (hf : ∀ p fs, LF r m p.1 p.2 fs → fs.lookup f = some (.int (F p))) (hr : LinesIs t H xs r m ls) :
    ∀ (i : Nat) (x : V) (z : Int) (σ' : St) (H' : Hp) (R : VK), xs[i]? = some x → (ls.map F)[i]? = some z → σ'[s]? = some (some x) → Same H H' → R (.int z) H' → tFld K (tVar s) f σ' H' R := by
  intro i x z σ' H' R hx hz hs h1 hR
  rw [List.getElem?_map] at hz
  cases e : ls[i]? with
  | none => rw [e] at hz; cases hz
  | some p =>
    rw [e] at hz
    obtain ⟨a, rfl, dx, fs, ha, hF⟩ := hr.2 i x p hx e
    exact ⟨_, hs, a, t.Line, dx, fs, _, rfl, h1 _ _ ha, T.clsL, na, hf p fs hF, by rw [show F p = z from Option.some.inj hz]; exact hR⟩
def rd_totals (K : PySem.W.Frag) (t : Adr) : TS :=
  (tRet (tLst (tCons (tCB (rSum K) (tCons (tLc (iList K (tVar 0)) (gName 1) tYes (tFld K (tVar 1) "overfull") [1]) tNil)) (tCons (tCB (rSum K) (tCons (tLc (iList K (tVar 0)) (gName 1) tYes (tFld K (tVar 1) "cost") [1]) tNil)) (tCons (tCB (rLen K) (tCons (tVar 0) tNil)) tNil)))))
theorem rdok_totals {K : PySem.W.Frag} {t : Adr} (T : Tx K t) {vs : List V} {H : Hp} {Q : VK} {E : XK} (h : sp_totals K t vs H Q E) : rd_totals K t { nx := fun _ H' => Q .non H', rt := Q } (L2.start ["lines", "line"] vs) H := by
  obtain ⟨d, r, m, ls, rfl, ⟨xs, hx, hL⟩, ok, k⟩ := h
  have few := ok.few
  unfold rd_totals
  show tCB (rSum K) (tCons (tLc (iList K (tVar 0)) (gName 1) tYes (tFld K (tVar 1) "overfull") [1]) tNil) _ _ _
  refine comp_sum rfl (SqL.of hx) (by rw [List.length_map]; exact hL.1) (by rw [List.length_map]; omega) (by show 1 < 2; decide) (line_step T T.loverfull (fun p fs h => h.overfull) hL) fun H1 s1 => ?_
  show tCB (rSum K) (tCons (tLc (iList K (tVar 0)) (gName 1) tYes (tFld K (tVar 1) "cost") [1]) tNil) _ _ _
  refine comp_sum rfl (SqL.of (s1 _ _ hx)) (by rw [List.length_map]; exact hL.1) (by rw [List.length_map]; omega) (by show 1 < 2; decide) (line_step T T.lcost (fun p fs h => h.cost) (hL.same s1)) fun H2 s2 => ?_
  have s12 := s1.trans s2
  refine ⟨_, rfl, d, xs, rfl, .inl (SqL.of (s12 _ _ hx)), by show 3 ≤ sizeLine; rw [sizeLine_eq]; omega, fun p hp => ?_⟩
  rw [hL.1]
  exact k _ p (s12.trans (same_new hp)) (s12.free hp) upd_same
def rd_line_numbers (K : PySem.W.Frag) (t : Adr) : TS :=
  (tSeq (tAsg (tLst tNil) (gName 1))
  (tSeq (tFor (iList K (tVar 0)) (gName 2)
    (tDrop (tBM K "list" rExtend (tVar 1) (tCons (tLst (tCons (tFld K (tVar 2) "begin") (tCons (tFld K (tVar 2) "end") (tCons (tFld K (tVar 2) "slack") (tCons (tFld K (tVar 2) "overfull") (tCons (tFld K (tVar 2) "height") (tCons (tFld K (tVar 2) "depth") tNil))))))) tNil))))
  (tRet (tVar 1))))
theorem rdok_line_numbers {K : PySem.W.Frag} {t : Adr} (T : Tx K t) {vs : List V} {H : Hp} {Q : VK} {E : XK} (h : sp_line_numbers K t vs H Q E) : rd_line_numbers K t { nx := fun _ H' => Q .non H', rt := Q } (L2.start ["lines", "found", "line"] vs) H := by
  obtain ⟨d, r, m, ls, rfl, ⟨xs, hx, hL⟩, ok, k⟩ := h
  have few := ok.few
  unfold rd_line_numbers
  walk_at "rd"
  refine ⟨Nat.zero_le _, fun f hf => ?_⟩
  have s0 := same_new (o := .lst []) hf
  refine for_l (a := d) (fun R h => ⟨_, rfl, h⟩) (SqL.of (s0 _ _ hx)) (fun n σ H2 => Same H H2 ∧ (∃ v, σ = [some (.ref d), some (.ref f), v]) ∧ H2 f = some (.lst (nv ((ls.take n).flatMap (sixOf r m))))) ⟨s0, ⟨_, rfl⟩, upd_same⟩ (fun _ _ _ _ w => SqL.of (w.1 _ _ hx)) ?_ ?_
  · rintro n x σ H2 hxn ⟨hs, ⟨v, rfl⟩, hf2⟩
    have hn : n < ls.length := by rw [← hL.1]; exact (List.getElem?_eq_some_iff.mp hxn).1
    obtain ⟨a, rfl, dx, fs, ha, hF⟩ := hL.2 n x _ hxn (List.getElem?_eq_getElem hn)
    have ha2 := hs _ _ ha
    walk_at "rd"
    refine ⟨.inl ⟨rfl, _, SqL.of hf2⟩, ?_⟩
    refine ⟨_, rfl, a, t.Line, dx, fs, _, rfl, ha2, T.clsL, T.lbegin, hF.begin_, _, rfl, a, t.Line, dx, fs, _, rfl, ha2, T.clsL, T.lend, hF.end_, _, rfl, a, t.Line, dx, fs, _, rfl, ha2, T.clsL, T.lslack, hF.slack, _, rfl, a, t.Line, dx, fs, _, rfl, ha2, T.clsL, T.loverfull, hF.overfull,
      _, rfl, a, t.Line, dx, fs, _, rfl, ha2, T.clsL, T.lheight, hF.height, _, rfl, a, t.Line, dx, fs, _, rfl, ha2, T.clsL, T.ldepth, hF.depth, ?_⟩
    refine ⟨by rw [sizeLine_eq]; omega, fun p hp => ⟨_, (same_new hp) _ _ hf2, _, upd_same, ?_, ?_, ⟨_, rfl⟩, ?_⟩⟩
    · rw [nv_len, BL.flat_const (k := 6) (fun _ => rfl), List.length_take, sizeLine_eq]
      show _ + 6 ≤ _
      omega
    · exact fun b o e => by rw [upd_ne (ne_of_none e hf)]; exact (same_new hp) _ _ (hs b o e)
    · rw [upd_same, List.take_succ_eq_append_getElem hn, List.flatMap_append]
      unfold nv
      rw [List.map_append]
      simp [sixOf]
  · rintro σ H2 ⟨hs, ⟨v, rfl⟩, hf2⟩
    walk_at "rd"
    rw [hL.1, List.take_length] at hf2
    exact k H2 f hs hf hf2
/-! ### shares, shifts, edges of a line's items -/
theorem comp_var {K : PySem.W.Frag} {σ : St} {H : Hp} {Q : VK} {s n : Nat} {b : Addr} {te : TE} {xs : List V} {ns : List Int} (hn : σ[n]? = some (some (.ref b))) (hb : SqL K H b xs) (hlen : xs.length = ns.length) (hsz : ns.length ≤ 100000) (hs : s < σ.length)
    (step : ∀ (i : Nat) (x : V) (z : Int) (σ' : St) (H' : Hp) (R : VK), xs[i]? = some x → ns[i]? = some z → σ'[s]? = some (some x) → Same H H' → R (.int z) H' → te σ' H' R)
    (k : ∀ D H', Same H H' → H D = none → H' D = some (.lst (nv ns)) → Q (.ref D) H') : tLc (iList K (tVar n)) (gName s) tYes te [s] σ H Q := ⟨_, hn, comp_core hb hlen hsz hs step k⟩
theorem Tells.after {H H1 : Hp} {ans : List Int} {Q : VK} (k : Tells H ans Q) (s : Same H H1) : Tells H1 ans Q := fun H' q s1 hq h => k H' q (s.trans s1) (s.free hq) h
theorem log2_lt {n : Int} (h0 : 0 < n) (h : n ≤ 1000000000) : n.natAbs.log2 < 9000 := by
  have : n.natAbs < 2 ^ 30 := by omega
  have := (Nat.log2_lt (by omega)).mpr this
  omega
theorem take_sum {ps : List Int} {n : Nat} {z : Int} (h : ps[n]? = some z) : Vamati.sum (ps.take n) + z = Vamati.sum (ps.take (n + 1)) := by
  have hn := (List.getElem?_eq_some_iff.mp h).1
  rw [List.take_succ_eq_append_getElem hn, (List.getElem?_eq_some_iff.mp h).2, BL.sum_append, BL.sum_cons, BL.sum_nil]
  omega
def rd_shares (K : PySem.W.Frag) (t : Adr) : TS :=
  (tSeq (tAsg (tCB (rSum K) (tCons (tVar 1) tNil)) (gName 2))
  (tSeq (tAsg (tLst (tCons (tC (.int 0)) tNil)) (gName 3))
  (tSeq (tAsg (tC (.int 0)) (gName 4))
  (tSeq (tFor (iList K (tVar 1)) (gName 5)
    (tSeq (tAug 4 (tVar 5) (rI0 fun i j => .int (i + j)))
    (tDrop (tBM K "list" rAppend (tVar 3) (tCons (tOp (rI CDivB fun i j => .int (i / j)) (tOp (rI CMul fun i j => .int (i * j)) (tVar 0) (tVar 4)) (tVar 2)) tNil)))))
  (tRet (tVar 3))))))
theorem rdok_shares {K : PySem.W.Frag} {t : Adr} (T : Tx K t) {vs : List V} {H : Hp} {Q : VK} {E : XK} (h : sp_shares K t vs H Q E) : rd_shares K t { nx := fun _ H' => Q .non H', rt := Q } (L2.start ["amount", "parts", "whole", "found", "reached", "part"] vs) H := by
  obtain ⟨p, a, ps, rfl, hp, few, pos, big, ab, k⟩ := h
  unfold rd_shares
  walk_at "rd"
  refine ⟨p, ps, rfl, SqL.of hp, ?_⟩
  rw [BL.lsum_eq]
  refine ⟨one_le, fun f hf => ?_⟩
  have s0 := same_new (o := .lst [V.int 0]) hf
  refine for_l (a := p) (fun R h => ⟨_, rfl, h⟩) (SqL.of (s0 _ _ hp)) (fun n σ H2 => Same H H2 ∧ (∃ v, σ = [some (.int a), some (.ref p), some (.int (Vamati.sum ps)), some (.ref f), some (.int (Vamati.sum (ps.take n))), v]) ∧ H2 f = some (.lst (nv (upto (shareOf a ps) (n + 1))))) ⟨s0, ⟨_, rfl⟩, ?_⟩ (fun _ _ _ _ w => SqL.of (w.1 _ _ hp)) ?_ ?_
  · rw [upd_same]
    show _ = some (HO.lst [V.int (a * 0 / Vamati.sum ps)])
    rw [Int.mul_zero, Int.zero_ediv]
  · rintro n x σ H2 hxn ⟨hs, ⟨v, rfl⟩, hf2⟩
    obtain ⟨z, hz, rfl⟩ := nv_get hxn
    have hn := (List.getElem?_eq_some_iff.mp hz).1
    walk_at "rd"
    rw [take_sum hz]
    refine ⟨.inl ⟨rfl, _, SqL.of hf2⟩, .inl ⟨by omega, by omega⟩, ⟨pos, log2_lt pos big⟩, _, hf2, by rw [nv_len, upto_len, sizeLine_eq]; omega, fun b o e => by rw [upd_ne (ne_of_none e hf)]; exact hs b o e, ⟨rfl, _, rfl⟩, ?_⟩
    rw [upd_same, nv_snoc, upto_succ (shareOf a ps) (n + 1)]; rfl
  · rintro σ H2 ⟨hs, ⟨v, rfl⟩, hf2⟩
    walk_at "rd"
    rw [nv_len] at hf2
    exact k H2 f hs hf hf2
def rd_item_edges (K : PySem.W.Frag) (t : Adr) : TS :=
  (tSeq (tAsg (tFld K (tVar 1) "indent") (gName 2))
  (tSeq (tAsg (tLst tNil) (gName 3))
  (tSeq (tFor (iList K (tSl (rSlL K) (tVar 0) (tPart (tFld K (tVar 1) "begin")) (tPart (tOp (rI0 fun i j => .int (i + j)) (tFld K (tVar 1) "end") (tC (.int 1)))))) (gName 4)
    (tSeq (tDrop (tBM K "list" rAppend (tVar 3) (tCons (tVar 2) tNil)))
    (tAug 2 (tOp (rI0 fun i j => .int (i + j)) (tOp (rIxT K) (tVar 4) (tC (.int (0)))) (tOp (rIxT K) (tVar 4) (tC (.int (3))))) (rI0 fun i j => .int (i + j)))))
  (tRet (tVar 3)))))
theorem rdok_item_edges {K : PySem.W.Frag} {t : Adr} (T : Tx K t) {vs : List V} {H : Hp} {Q : VK} {E : XK} (h : sp_item_edges K t vs H Q E) : rd_item_edges K t { nx := fun _ H' => Q .non H', rt := Q } (L2.start ["boxes", "line", "x", "found", "box"] vs) H := by
  obtain ⟨l, p, r, m, i, j, rfl, ⟨xs, hx, hr⟩, ⟨dx, fs, hp, hF⟩, g, hij, hj, k⟩ := h
  have few := g.few
  have hlen := hr.1
  have sl := BL.slice_len hij hj
  unfold rd_item_edges
  walk_at "rd"
  refine ⟨_, rfl, p, t.Line, dx, fs, _, rfl, hp, T.clsL, T.lindent, hF.indent, Nat.zero_le _, fun f hf => ?_⟩
  have s0 := same_new (o := .lst []) hf
  have hp0 := s0 _ _ hp
  refine ⟨_, rfl, _, rfl, p, t.Line, dx, fs, _, rfl, hp0, T.clsL, T.lbegin, hF.begin_, _, rfl, _, rfl, p, t.Line, dx, fs, _, rfl, hp0, T.clsL, T.lend, hF.end_, _, _, rfl, rfl, _, rfl, l, xs, rfl, SqL.of (s0 _ _ hx), fun ia hia => ?_⟩
  have ej : (j : Int) + 1 = ((j + 1 : Nat) : Int) := by omega
  rw [ej, cutV_nat xs (by omega) (by omega)]
  have rI : RowIs K H ((xs.drop i).take (j + 1 - i)) (Vamati.slice r i j) := by rw [slice_dt]; exact (hr.drop i).take _
  generalize (xs.drop i).take (j + 1 - i) = xi at rI
  have s1 := s0.trans (same_new (o := .lst xi) hia)
  have fia : ia ≠ f := (ne_of_none (upd_same (a := f)) hia).symm
  refine ⟨ia, rfl, ⟨_, SqL.of upd_same⟩, ?_⟩
  refine for_list (xs := xi) (fun n σ H2 => Same H H2 ∧ H2 ia = some (.lst xi) ∧ (∃ v, σ = [some (.ref l), some (.ref p), some (.int (Vamati.indentOf m i + BL.beg (Vamati.slice r i j) n)), some (.ref f), v]) ∧ H2 f = some (.lst (nv (upto (fun k => Vamati.indentOf m i + BL.beg (Vamati.slice r i j) k) n)))) ⟨s1, upd_same, ⟨none, by rw [BL.beg_zero, Int.add_zero]⟩, ?_⟩ (fun _ _ _ _ w => SqL.of w.2.1) ?_ ?_
  · rw [upd_ne fia.symm]; exact upd_same
  · rintro n x σ H2 hxn ⟨hs, hia2, ⟨v, rfl⟩, hf2⟩
    have hn : n < (Vamati.slice r i j).length := by rw [← rI.1]; exact (List.getElem?_eq_some_iff.mp hxn).1
    obtain ⟨a, rfl, ha⟩ := rI.2 n x _ hxn (List.getElem?_eq_getElem hn)
    walk_at "rd"
    have kk : But f H2 (upd H2 f (.lst (nv (upto (fun k => Vamati.indentOf m i + BL.beg (Vamati.slice r i j) k) n) ++ [V.int (Vamati.indentOf m i + BL.beg (Vamati.slice r i j) n)]))) := but_set
    have ha2 := But.sqT kk hf2 (Same.sqT hs ha)
    refine ⟨.inl ⟨rfl, _, SqL.of hf2⟩, _, hf2, by rw [nv_len, upto_len, sizeLine_eq]; omega, ?_⟩
    refine ⟨_, ha2, .int (Vamati.slice r i j)[n].width, rfl, _, ha2, .int (Vamati.slice r i j)[n].space, rfl, _, rfl, _, rfl, ?_⟩
    refine ⟨fun b o e => by rw [upd_ne (ne_of_none e hf)]; exact hs b o e, by rw [upd_ne fia]; exact hia2, ⟨?_, _, rfl⟩, ?_⟩
    · rw [BL.step_beg hn]; omega
    · rw [upd_same, nv_snoc, upto_succ]
  · rintro σ H2 ⟨hs, hia2, ⟨v, rfl⟩, hf2⟩
    walk_at "rd"
    rw [rI.1] at hf2
    exact k H2 f hs hf hf2
def rd_shifts (K : PySem.W.Frag) (t : Adr) : TS :=
  (tSeq (tAsg (tSl (rSlL K) (tVar 0) (tPart (tFld K (tVar 1) "begin")) (tPart (tFld K (tVar 1) "end"))) (gName 2))
  (tSeq (tIfS (tAnd (tTest (tOp (rI0 fun i j => .bl (decide (j < i))) (tFld K (tVar 1) "slack") (tC (.int 0)))) (tAnd (tNot (fun σ H Q => (tFld K (tVar 1) "is_last") σ H fun x H' => ∃ k, TruV K x H' k ∧ Q k H')) (tTest (tOp (rI0 fun i j => .bl (decide (j < i))) (tFld K (tVar 1) "stretch") (tC (.int 0))))))
    (tRet (tCall (sp_shares K t) [] E0 (tCons (tFld K (tVar 1) "slack") (tCons (tLc (iList K (tVar 2)) (gName 4) tYes (tOp (rIxT K) (tVar 4) (tC (.int (4)))) [4]) tNil))))
    tNext)
  (tSeq (tIfS (tAnd (tTest (tOp (rI0 fun i j => .bl (decide (i < j))) (tFld K (tVar 1) "slack") (tC (.int 0)))) (tTest (tOp (rI0 fun i j => .bl (decide (j < i))) (tFld K (tVar 1) "shrink") (tC (.int 0)))))
    (tSeq (tAsg (tCB rMin2 (tCons (tUn (rU fun i => .int (-i)) (tFld K (tVar 1) "slack")) (tCons (tFld K (tVar 1) "shrink") tNil))) (gName 3))
    (tRet (tLc (iList K (tCall (sp_shares K t) [] E0 (tCons (tVar 3) (tCons (tLc (iList K (tVar 2)) (gName 4) tYes (tOp (rIxT K) (tVar 4) (tC (.int (5)))) [4]) tNil)))) (gName 5) tYes (tUn (rU fun i => .int (-i)) (tVar 5)) [5])))
    tNext)
  (tRet (tOp rRep (tLst (tCons (tC (.int 0)) tNil)) (tOp (rI0 fun i j => .int (i + j)) (tCB (rLen K) (tCons (tVar 2) tNil)) (tC (.int 1))))))))
theorem rdok_shifts {K : PySem.W.Frag} {t : Adr} (T : Tx K t) {vs : List V} {H : Hp} {Q : VK} {E : XK} (h : sp_shifts K t vs H Q E) : rd_shifts K t { nx := fun _ H' => Q .non H', rt := Q } (L2.start ["boxes", "line", "spaced", "taken", "box", "share"] vs) H := by
  obtain ⟨l, p, r, m, i, j, rfl, ⟨xs, hx, hr⟩, ⟨dx, fs, hp, hF⟩, g, gm, hij, hj, k⟩ := h
  replace hF : LF r m i j fs := hF
  have few := g.few
  have hlen := hr.1
  have sl := BL.slice_len hij hj
  unfold rd_shifts
  refine ⟨_, rfl, _, rfl, p, t.Line, dx, fs, _, rfl, hp, T.clsL, T.lbegin, hF.begin_, _, rfl, _, rfl, p, t.Line, dx, fs, _, rfl, hp, T.clsL, T.lend, hF.end_, _, rfl, l, xs, rfl, SqL.of hx, fun sa hsa => ?_⟩
  rw [cutV_nat xs hij (by omega)]
  have rS : RowIs K H ((xs.drop i).take (j - i)) (Vamati.inner (Vamati.slice r i j)) := by rw [inner_dt hij hj]; exact (hr.drop i).take _
  generalize (xs.drop i).take (j - i) = xj at rS
  have s1 := same_new (o := .lst xj) hsa
  have hp1 := s1 _ _ hp
  have rS1 := rS.same s1
  have hsa1 := upd_same (H := H) (a := sa) (o := .lst xj)
  have li : (Vamati.inner (Vamati.slice r i j)).length + 1 = (Vamati.slice r i j).length := by rw [BL.inner_slice hij hj, List.length_drop, List.length_take, sl]; omega
  have k1 := k.after s1
  generalize upd H sa (.lst xj) = H1 at s1 hp1 rS1 hsa1 k1 ⊢
  have es := BL.slack_eq (m := m) hij hj
  have sb := BL.slk_bound g gm hij hj
  rw [← es] at sb
  have bnd : ∀ f : Item → Int, (∀ a, good a = true → 0 ≤ f a ∧ f a ≤ 1000000) → Vamati.sum ((Vamati.inner (Vamati.slice r i j)).map f) ≤ 1000000000 := fun f hf => by
    have := (BL.sum_bound f 0 1000000 (Vamati.inner (Vamati.slice r i j)) (fun a ha => hf a (by
      rw [BL.inner_slice hij hj] at ha
      exact g.it a (List.mem_of_mem_take (List.mem_of_mem_drop ha))))).2
    omega
  have bst := bnd (fun a => a.stretch) fun a h => (BL.good_iff.mp h).2.2.1
  have bsh := bnd (fun a => a.shrink) fun a h => (BL.good_iff.mp h).2.2.2.1
  have getS : ∀ {σ : St} {Q' : VK}, σ[1]? = some (some (.ref p)) → Q' (.int (Vamati.slackOf (Vamati.roomOf m i) (Vamati.slice r i j))) H1 → tFld K (tVar 1) "slack" σ H1 Q' := fun h q => ⟨_, h, p, t.Line, dx, fs, _, rfl, hp1, T.clsL, T.lslack, hF.slack, q⟩
  have nxt2 : ∀ {σ : St}, σ = [some (.ref l), some (.ref p), some (.ref sa), none, none, none] → ¬ (0 < Vamati.slackOf (Vamati.roomOf m i) (Vamati.slice r i j) ∧ decide (j + 1 = r.length) = false ∧ 0 < Vamati.stretchOf (Vamati.slice r i j)) → tSeq (tIfS (tAnd (tTest (tOp (rI0 fun i j => .bl (decide (i < j))) (tFld K (tVar 1) "slack") (tC (.int 0)))) (tTest (tOp (rI0 fun i j => .bl (decide (j < i))) (tFld K (tVar 1) "shrink") (tC (.int 0)))))
    (tSeq (tAsg (tCB rMin2 (tCons (tUn (rU fun i => .int (-i)) (tFld K (tVar 1) "slack")) (tCons (tFld K (tVar 1) "shrink") tNil))) (gName 3))
    (tRet (tLc (iList K (tCall (sp_shares K t) [] E0 (tCons (tVar 3) (tCons (tLc (iList K (tVar 2)) (gName 4) tYes (tOp (rIxT K) (tVar 4) (tC (.int (5)))) [4]) tNil)))) (gName 5) tYes (tUn (rU fun i => .int (-i)) (tVar 5)) [5])))
    tNext)
    (tRet (tOp rRep (tLst (tCons (tC (.int 0)) tNil)) (tOp (rI0 fun i j => .int (i + j)) (tCB (rLen K) (tCons (tVar 2) tNil)) (tC (.int 1))))) { nx := fun _ H' => Q .non H', rt := Q } σ H1 := by
    intro σ hσ hno
    subst hσ
    have zero : ¬ (Vamati.slackOf (Vamati.roomOf m i) (Vamati.slice r i j) < 0 ∧ 0 < Vamati.shrinkOf (Vamati.slice r i j)) → tRet (tOp rRep (tLst (tCons (tC (.int 0)) tNil)) (tOp (rI0 fun i j => .int (i + j)) (tCB (rLen K) (tCons (tVar 2) tNil)) (tC (.int 1)))) { nx := fun _ H' => Q .non H', rt := Q } [some (.ref l), some (.ref p), some (.ref sa), none, none, none] H1 := by
      intro hno2
      refine ⟨one_le, fun a ha => ?_⟩
      have s2 := same_new (o := .lst [V.int 0]) ha
      have hl : xj.length + 1 = (Vamati.slice r i j).length := by rw [rS.1]; exact li
      refine ⟨_, rfl, sa, xj, rfl, .inl (SqL.of (s2 _ _ hsa1)), _, _, rfl, rfl, a, (xj.length : Int) + 1, _, rfl, rfl, upd_same, by omega, by omega, by rw [sizeLine_eq, List.length_singleton]; omega, fun q hq => ?_⟩
      rw [show ((xj.length : Int) + 1).toNat = xj.length + 1 by omega, hl, rep_nv] 
      have e : List.replicate (Vamati.slice r i j).length (0 : Int) = upto (Vamati.putTo (Vamati.roomOf m i) (decide (j + 1 = r.length)) (Vamati.slice r i j)) (Vamati.slice r i j).length := by
        have f0 : Vamati.putTo (Vamati.roomOf m i) (decide (j + 1 = r.length)) (Vamati.slice r i j) = fun _ => 0 := by
          funext n
          unfold Vamati.putTo
          simp only
          rw [if_neg hno, if_neg hno2]
        rw [f0]
        unfold upto
        rw [List.map_const', List.length_range]
      rw [e]
      exact k1 _ q (s2.trans (same_new hq)) (s2.free hq) upd_same
    refine ⟨_, rfl, p, t.Line, dx, fs, _, rfl, hp1, T.clsL, T.lslack, hF.slack, _, _, rfl, rfl, _, rfl, ?_⟩
    by_cases h4 : Vamati.slackOf (Vamati.roomOf m i) (Vamati.slice r i j) < 0
    · rw [decide_eq_true h4]
      simp only [if_true]
      refine ⟨_, rfl, p, t.Line, dx, fs, _, rfl, hp1, T.clsL, T.lshrink, hF.shrink, _, _, rfl, rfl, _, rfl, ?_⟩
      by_cases h5 : 0 < Vamati.shrinkOf (Vamati.slice r i j)
      · rw [decide_eq_true h5]
        simp only [if_true]
        refine ⟨_, rfl, p, t.Line, dx, fs, _, rfl, hp1, T.clsL, T.lslack, hF.slack, _, rfl, _, rfl, p, t.Line, dx, fs, _, rfl, hp1, T.clsL, T.lshrink, hF.shrink, _, _, rfl, ?_⟩
        have em : (if Vamati.shrinkOf (Vamati.slice r i j) < -Vamati.slackOf (Vamati.roomOf m i) (Vamati.slice r i j) then Vamati.shrinkOf (Vamati.slice r i j) else -Vamati.slackOf (Vamati.roomOf m i) (Vamati.slice r i j)) = min (-Vamati.slackOf (Vamati.roomOf m i) (Vamati.slice r i j)) (Vamati.shrinkOf (Vamati.slice r i j)) := by split <;> omega
        rw [em]
        refine ⟨_, rfl, ?_⟩
        show tLc (iList K (tVar 2)) (gName 4) tYes (tOp (rIxT K) (tVar 4) (tC (.int 5))) [4] _ _ _
        refine comp_var rfl (SqL.of hsa1) (by rw [List.length_map]; exact rS1.1) (by rw [List.length_map]; omega) (by show 4 < 6; decide) (item_step (f := fun a => a.shrink) (fun a => rfl) rS1) fun D H2 s2 hD hD2 => ?_
        refine ⟨D, _, _, rfl, hD2, by rw [List.length_map]; omega, h5, bsh, by constructor <;> omega, fun H3 q s3 hq hq3 => ?_⟩
        have e : (upto (shareOf (min (-Vamati.slackOf (Vamati.roomOf m i) (Vamati.slice r i j)) (Vamati.shrinkOf (Vamati.slice r i j))) ((Vamati.inner (Vamati.slice r i j)).map fun a => a.shrink)) (((Vamati.inner (Vamati.slice r i j)).map fun a => a.shrink).length + 1)).map (fun z => -z) = upto (Vamati.putTo (Vamati.roomOf m i) (decide (j + 1 = r.length)) (Vamati.slice r i j)) (Vamati.slice r i j).length := by
          rw [List.length_map, li]
          unfold upto
          rw [List.map_map]
          congr 1
          funext n
          unfold Vamati.putTo
          simp only [Function.comp]
          rw [if_neg hno, if_pos ⟨h4, h5⟩, List.map_take]; rfl
        show tLc (iList K (tC (.ref q))) (gName 5) tYes (tUn (rU fun i => .int (-i)) (tVar 5)) [5] _ _ _
        refine comp_core (SqL.of hq3) (ns := upto (Vamati.putTo (Vamati.roomOf m i) (decide (j + 1 = r.length)) (Vamati.slice r i j)) (Vamati.slice r i j).length) ?_ ?_ (by show 5 < 6; decide) ?_ fun D2 H4 s4 hD4 h4 => k1 H4 D2 ((s2.trans s3).trans s4) ((s2.trans s3).free hD4) h4
        · rw [nv_len, upto_len, upto_len, List.length_map]; exact li
        · rw [upto_len]; omega
        · intro n x z σ' H' R hx hz hs _ hR
          obtain ⟨y, hy, rfl⟩ := nv_get hx
          rw [← e, List.getElem?_map, hy] at hz
          exact ⟨_, hs, y, rfl, by show R (.int (-y)) H'; rw [show -y = z from Option.some.inj hz]; exact hR⟩
      · rw [decide_eq_false h5]
        simp only [Bool.false_eq_true, if_false]
        exact zero (fun z => h5 z.2)
    · rw [decide_eq_false h4]
      simp only [Bool.false_eq_true, if_false]
      exact zero (fun z => h4 z.1)
  refine ⟨_, rfl, p, t.Line, dx, fs, _, rfl, hp1, T.clsL, T.lslack, hF.slack, _, _, rfl, rfl, _, rfl, ?_⟩
  by_cases h1 : 0 < Vamati.slackOf (Vamati.roomOf m i) (Vamati.slice r i j)
  · rw [decide_eq_true h1]
    simp only [if_true]
    refine ⟨_, rfl, p, t.Line, dx, fs, .bl (decide (j + 1 = r.length)), rfl, hp1, T.clsL, T.lis_last, hF.is_last, decide (j + 1 = r.length), rfl, ?_⟩
    by_cases h2 : j + 1 = r.length
    · rw [decide_eq_true h2]
      simp only [Bool.not_true, Bool.false_eq_true, if_false]
      exact nxt2 rfl (fun z => by rw [decide_eq_true h2] at z; exact absurd z.2.1 (by decide))
    · rw [decide_eq_false h2]
      simp only [Bool.not_false, if_true]
      refine ⟨_, rfl, p, t.Line, dx, fs, _, rfl, hp1, T.clsL, T.lstretch, hF.stretch, _, _, rfl, rfl, _, rfl, ?_⟩
      by_cases h3 : 0 < Vamati.stretchOf (Vamati.slice r i j)
      · rw [decide_eq_true h3]
        simp only [if_true]
        refine ⟨_, rfl, p, t.Line, dx, fs, _, rfl, hp1, T.clsL, T.lslack, hF.slack, ?_⟩
        show tLc (iList K (tVar 2)) (gName 4) tYes (tOp (rIxT K) (tVar 4) (tC (.int 4))) [4] _ _ _
        refine comp_var rfl (SqL.of hsa1) (by rw [List.length_map]; exact rS1.1) (by rw [List.length_map]; omega) (by show 4 < 6; decide) (item_step (f := fun a => a.stretch) (fun a => rfl) rS1) fun D H2 s2 hD hD2 => ?_
        refine ⟨D, _, _, rfl, hD2, by rw [List.length_map]; omega, h3, bst, by constructor <;> (show _ ≤ _) <;> omega, ?_⟩
        have e : upto (shareOf (Vamati.slackOf (Vamati.roomOf m i) (Vamati.slice r i j)) ((Vamati.inner (Vamati.slice r i j)).map fun a => a.stretch)) (((Vamati.inner (Vamati.slice r i j)).map fun a => a.stretch).length + 1) = upto (Vamati.putTo (Vamati.roomOf m i) (decide (j + 1 = r.length)) (Vamati.slice r i j)) (Vamati.slice r i j).length := by
          rw [List.length_map, li]
          congr 1
          funext n
          unfold shareOf Vamati.putTo
          simp only
          rw [if_pos ⟨h1, decide_eq_false h2, h3⟩, List.map_take]; rfl
        have k2 := k1.after s2
        rw [← e] at k2
        exact k2
      · rw [decide_eq_false h3]
        simp only [Bool.false_eq_true, if_false]
        exact nxt2 rfl (fun z => h3 z.2.2)
  · rw [decide_eq_false h1]
    simp only [Bool.false_eq_true, if_false]
    exact nxt2 rfl (fun z => h1 z.1)
/-! ### baselines -/
theorem mem_line {t : Adr} {H : Hp} {xs : List V} {r : Row} {m : Measure} {ls : List (Nat × Nat)} (hL : LinesIs t H xs r m ls) {n : Nat} (hn : n < ls.length) : ∃ a, xs[n]? = some (.ref a) ∧ LineAt t H a r m ls[n] := by
  have hx : n < xs.length := by rw [hL.1]; exact hn
  obtain ⟨a, e, q⟩ := hL.2 n xs[n] ls[n] (List.getElem?_eq_getElem hx) (List.getElem?_eq_getElem hn)
  exact ⟨a, by rw [List.getElem?_eq_getElem hx, e], q⟩
theorem max_if (a b : Int) : (if b > a then b else a) = max a b := by split <;> omega
def rd_baselines (K : PySem.W.Frag) (t : Adr) : TS :=
  (tSeq (tAsg (tLst tNil) (gName 3))
  (tSeq (tFor (iEnum K (tCons (tVar 0) tNil)) (gTup K 2 (gCons (gName 4) (gCons (gName 5) gNil)))
    (tIfS (tTest (tOp rEq (tVar 4) (tC (.int 0))))
      (tDrop (tBM K "list" rAppend (tVar 3) (tCons (tUn (rU fun i => .int (-i)) (tFld K (tVar 5) "height")) tNil)))
      (tSeq (tAsg (tCB rMax2 (tCons (tVar 1) (tCons (tOp (rI0 fun i j => .int (i + j)) (tOp (rI0 fun i j => .int (i + j)) (tFld K (tOp (rIxL K) (tVar 0) (tOp (rI0 fun i j => .int (i - j)) (tVar 4) (tC (.int 1)))) "depth") (tVar 2)) (tFld K (tVar 5) "height")) tNil))) (gName 6))
      (tDrop (tBM K "list" rAppend (tVar 3) (tCons (tOp (rI0 fun i j => .int (i - j)) (tOp (rIxL K) (tVar 3) (tUn (rU fun i => .int (-i)) (tC (.int 1)))) (tVar 6)) tNil))))))
  (tRet (tVar 3))))
def BSW (H : Hp) (d f : Addr) (lead gap : Int) (ys : List Int) (n : Nat) (σ : St) (H2 : Hp) : Prop := Same H H2 ∧ (∃ v1 v2 v3, σ = [some (.ref d), some (.int lead), some (.int gap), some (.ref f), v1, v2, v3]) ∧ H2 f = some (.lst (nv (ys.take n)))
theorem rdok_baselines {K : PySem.W.Frag} {t : Adr} (T : Tx K t) {vs : List V} {H : Hp} {Q : VK} {E : XK} (h : sp_baselines K t vs H Q E) : rd_baselines K t { nx := fun _ H' => Q .non H', rt := Q } (L2.start ["lines", "lead", "gap", "found", "at", "line", "drop"] vs) H := by
  obtain ⟨d, r, m, ls, lead, gap, rfl, ⟨xs, hx, hL⟩, ok, k⟩ := h
  have few := ok.few
  have yl : (Vamati.baselines lead gap none (Vamati.rowsOf r ls)).length = ls.length := by rw [BL.base_len, BL.rows_len]
  have y0 := fun (l : Row) => BL.base_zero lead gap (rows := Vamati.rowsOf r ls) (l := l)
  have yn := BL.base_next lead gap (Vamati.rowsOf r ls) none
  generalize Vamati.baselines lead gap none (Vamati.rowsOf r ls) = ys at yl y0 yn k
  unfold rd_baselines
  refine ⟨Nat.zero_le _, fun f hf => ?_⟩
  have s0 := same_new (o := .lst []) hf
  refine ⟨_, rfl, d, xs, rfl, SqL.of (s0 _ _ hx), for_enumL (xs := xs) (BSW H d f lead gap ys) ⟨s0, ⟨_, _, _, rfl⟩, upd_same⟩ (fun _ _ _ _ w => SqL.of (w.1 _ _ hx)) ?_ ?_⟩
  · rintro n x σ H2 q hxn ⟨hs, ⟨v1, v2, v3, rfl⟩, hf2⟩ hq
    have hn : n < ls.length := by rw [← hL.1]; exact (List.getElem?_eq_some_iff.mp hxn).1
    obtain ⟨a, rfl, dx, fs, ha, hF⟩ := hL.2 n x _ hxn (List.getElem?_eq_getElem hn)
    have s2 := hs.trans (same_new (o := .tup [V.int (n : Nat), V.ref a]) hq)
    have hf3 := (same_new (o := .tup [V.int (n : Nat), V.ref a]) hq) _ _ hf2
    have ha3 := s2 _ _ ha
    refine ⟨q, _, rfl, SqT.of upd_same, rfl, _, _, rfl, _, _, rfl, rfl, _, rfl, rfl, _, rfl, ?_⟩
    generalize upd H2 q (.tup [V.int (n : Nat), V.ref a]) = H3 at s2 hf3 ha3 ⊢
    have fin : ∀ z v1 v2 v3, ys[n]? = some z → BSW H d f lead gap ys (n + 1) [some (.ref d), some (.int lead), some (.int gap), some (.ref f), v1, v2, v3] (upd H3 f (.lst (nv (ys.take n) ++ [V.int z]))) := fun z v1 v2 v3 hz => by
      refine ⟨fun b o e => by rw [upd_ne (ne_of_none e hf)]; exact s2 b o e, ⟨_, _, _, rfl⟩, ?_⟩
      rw [upd_same, nv_snoc, List.take_succ_eq_append_getElem (by omega), (List.getElem?_eq_some_iff.mp hz).2]
    have bd : (nv (ys.take n)).length < sizeLine := by rw [nv_len, List.length_take, sizeLine_eq]; omega
    cases n with
    | zero =>
      have hz := y0 _ (BL.rows_get (List.getElem?_eq_getElem hn))
      exact (if_pos (decide_eq_true rfl)).mpr ⟨_, rfl, .inl ⟨rfl, _, SqL.of hf3⟩, _, rfl, a, t.Line, dx, fs, _, rfl, ha3, T.clsL, T.lheight, hF.height, _, rfl, f, _, _, rfl, rfl, hf3, bd, fin _ _ _ _ hz⟩
    | succ n' =>
      obtain ⟨a', ha', dx', fs', hp', hF'⟩ := mem_line hL (n := n') (by omega)
      have hy' : ys[n']? = some ys[n'] := List.getElem?_eq_getElem (by omega)
      have hz := yn n' _ _ _ (BL.rows_get (List.getElem?_eq_getElem (show n' < ls.length by omega))) (BL.rows_get (List.getElem?_eq_getElem hn)) hy'
      rw [← max_if] at hz
      have ei : ((n' + 1 : Nat) : Int) - 1 = (n' : Int) := by omega
      have hlast : atI (nv (ys.take (n' + 1))) (-1) = some (.int ys[n']) := by
        have hl : (nv (ys.take (n' + 1))).length = n' + 1 := by rw [nv_len, List.length_take]; omega
        rw [atI_neg1 (by omega), hl]
        refine nv_at ?_
        rw [List.getElem?_take, if_pos (by omega)]
        exact hy'
      refine (if_neg (fun z => by have := of_decide_eq_true z; injection this with e; omega)).mpr ?_
      refine ⟨_, rfl, _, rfl, _, rfl, _, _, rfl, rfl, d, xs, _, .ref a', rfl, rfl, SqL.of (s2 _ _ hx), (by show atI xs (((n' + 1 : Nat) : Int) - 1) = _; rw [ei]; exact atI_nat ha'), a', t.Line, dx', fs', _, rfl, s2 _ _ hp', T.clsL, T.ldepth, hF'.depth, _, rfl, _, _, rfl, rfl, _, rfl, a, t.Line, dx, fs, _, rfl, ha3, T.clsL, T.lheight, hF.height, _, _, rfl, rfl, _, _, rfl, ?_⟩
      exact ⟨_, rfl, .inl ⟨rfl, _, SqL.of hf3⟩, _, rfl, 1, rfl, f, _, -1, .int ys[n'], rfl, rfl, SqL.of hf3, hlast, _, rfl, _, _, rfl, rfl, f, _, _, rfl, rfl, hf3, bd, fin _ _ _ _ hz⟩
  · rintro σ H2 ⟨hs, ⟨v1, v2, v3, rfl⟩, hf2⟩
    rw [hL.1, ← yl, List.take_length] at hf2
    exact ⟨_, rfl, k H2 f hs hf hf2⟩
/-! ### places -/
theorem places_inner {K : PySem.W.Frag} {D : Ends} {H4 : Hp} {s0 s1 s2 s3 s4 s6 v9 v10 : Option V} {f xa : Addr} {y : Int} {zs acc : List Int} (hf : H4 f = some (.lst (nv acc))) (hxa : H4 xa = some (.lst (nv zs))) (hne : xa ≠ f) (hsz : acc.length + 2 * zs.length ≤ 1000000)
    (k : ∀ H' w9, But f H4 H' → H' f = some (.lst (nv (acc ++ zs.flatMap fun x => [x, y]))) → D.nx [s0, s1, s2, s3, s4, some (.ref f), s6, some (.int y), some (.ref xa), w9, v10] H') :
    tFor (iList K (tVar 8)) (gName 9) (tDrop (tBM K "list" rExtend (tVar 5) (tCons (tLst (tCons (tVar 9) (tCons (tVar 7) tNil))) tNil))) D [s0, s1, s2, s3, s4, some (.ref f), s6, some (.int y), some (.ref xa), v9, v10] H4 := by
  refine for_l (a := xa) (fun R h => ⟨_, rfl, h⟩) (SqL.of hxa) (fun n σ H2 => But f H4 H2 ∧ (∃ w9, σ = [s0, s1, s2, s3, s4, some (.ref f), s6, some (.int y), some (.ref xa), w9, v10]) ∧ H2 f = some (.lst (nv (acc ++ (zs.take n).flatMap fun x => [x, y])))) ⟨fun b o e _ => e, ⟨_, rfl⟩, ?_⟩ (fun _ _ _ _ w => SqL.of (w.1 _ _ hxa hne)) ?_ ?_
  · rw [List.take_zero, List.flatMap_nil, List.append_nil]; exact hf
  · rintro n x σ H2 hxn ⟨hs, ⟨w9, rfl⟩, hf2⟩
    obtain ⟨z, hz, rfl⟩ := nv_get hxn
    have hn := (List.getElem?_eq_some_iff.mp hz).1
    walk_at "rd"
    refine ⟨.inl ⟨rfl, _, SqL.of hf2⟩, by rw [sizeLine_eq]; omega, fun p hp => ?_⟩
    refine ⟨_, (same_new hp) _ _ hf2, _, upd_same, ?_, fun b o e hb => by rw [upd_ne hb]; exact (same_new hp) _ _ (hs b o e hb), ⟨_, rfl⟩, ?_⟩
    · rw [nv_len, List.length_append, BL.flat_const (k := 2) (fun _ => rfl), List.length_take, sizeLine_eq]
      show _ + 2 ≤ _
      omega
    · rw [upd_same, List.take_succ_eq_append_getElem hn, List.flatMap_append, ← List.append_assoc, (List.getElem?_eq_some_iff.mp hz).2]
      unfold nv
      simp
  · rintro σ H2 ⟨hs, ⟨w9, rfl⟩, hf2⟩
    rw [nv_len, List.take_length] at hf2
    exact k H2 w9 hs hf2
/-- two lists of numbers added -/
theorem comp_add {K : PySem.W.Frag} {H : Hp} {Q : VK} {xa sb : Addr} {F G : Nat → Int} {n : Nat} {σ : St} {s0 s1 s2 s3 s4 s5 s6 s7 s8 v9 v10 : Option V} (hσ : σ = [s0, s1, s2, s3, s4, s5, s6, s7, s8, v9, v10]) (hxa : H xa = some (.lst (nv (upto F n)))) (hsb : H sb = some (.lst (nv (upto G n)))) (hn : n ≤ 1000)
    (k : ∀ D H', Same H H' → H D = none → H' D = some (.lst (nv (upto (fun k => F k + G k) n))) → Q (.ref D) H') :
    tLc (iZip K (tCons (tC (.ref xa)) (tCons (tC (.ref sb)) tNil))) (gTup K 2 (gCons (gName 9) (gCons (gName 10) gNil))) tYes (tOp (rI0 fun i j => .int (i + j)) (tVar 9) (tVar 10)) [9, 10] σ H Q := by
  subst hσ
  refine ⟨xa, sb, _, _, rfl, SqL.of hxa, SqL.of hsb, fun D hD => ?_⟩
  refine lc_zipL (fun i H' => Same H H' ∧ H' D = some (.lst (nv (upto (fun k => F k + G k) i)))) ⟨same_new hD, by rw [upd_same]; rfl⟩ (by rw [nv_len, nv_len, upto_len, upto_len]) (fun i H' _ q => ⟨SqL.of (q.1 _ _ hxa), SqL.of (q.1 _ _ hsb)⟩) ?_ ?_
  · rintro i x y H' q hx hy ⟨hs1, hD1⟩ hq
    obtain ⟨z, hz, rfl⟩ := nv_get hx
    obtain ⟨w, hw, rfl⟩ := nv_get hy
    have hi : i < n := by
      have := (List.getElem?_eq_some_iff.mp hz).1
      rwa [upto_len] at this
    rw [upto_get F hi] at hz
    rw [upto_get G hi] at hw
    have e1 : F i = z := Option.some.inj hz
    have e2 : G i = w := Option.some.inj hw
    subst e1 e2
    refine ⟨q, _, rfl, SqT.of upd_same, rfl, _, _, rfl, _, _, rfl, rfl, rfl, ?_⟩
    unfold tYes
    simp only [if_true]
    refine ⟨_, rfl, _, rfl, _, _, rfl, rfl, _, (same_new hq) _ _ hD1, by rw [nv_len, upto_len, sizeLine_eq]; omega, fun b o e => by rw [upd_ne (ne_of_none e hD)]; exact (same_new hq) _ _ (hs1 b o e), ?_⟩
    rw [upd_same, upto_succ, ← nv_snoc]
  · rintro H' ⟨hs1, hD1⟩
    rw [nv_len, upto_len] at hD1
    exact k D H' hs1 hD hD1
theorem flat_le {α β : Type} {F : α → List β} {c : Nat} : ∀ l : List α, (∀ x ∈ l, (F x).length ≤ c) → (l.flatMap F).length ≤ c * l.length
  | [], _ => by simp
  | a :: l, h => by
    have h1 := h a (List.mem_cons_self ..)
    have ih := flat_le l fun x hx => h x (List.mem_cons_of_mem _ hx)
    rw [List.flatMap_cons, List.length_append, List.length_cons, Nat.mul_add]
    omega
theorem places_even {K : PySem.W.Frag} {t : Adr} {H4 : Hp} {Q : VK} {l a xa : Addr} {r : Row} {m : Measure} {i j : Nat} {F : Nat → Int} {s1 s2 s3 s4 s5 s7 v9 v10 : Option V} (hrow : RowAt K H4 l r) (hLa : LineAt t H4 a r m (i, j)) (g : BL.Good r) (gm : BL.GoodM m) (hij : i ≤ j) (hj : j < r.length)
    (hxa : H4 xa = some (.lst (nv (upto F (Vamati.slice r i j).length)))) (k : ∀ D H', Same H4 H' → H4 D = none → H' D = some (.lst (nv (upto (fun k => F k + Vamati.putTo (Vamati.roomOf m i) (decide (j + 1 = r.length)) (Vamati.slice r i j) k) (Vamati.slice r i j).length))) → Q (.ref D) H') :
    tLc (iZip K (tCons (tVar 8) (tCons (tCall (sp_shifts K t) [] E0 (tCons (tVar 0) (tCons (tVar 6) tNil))) tNil))) (gTup K 2 (gCons (gName 9) (gCons (gName 10) gNil))) tYes (tOp (rI0 fun i j => .int (i + j)) (tVar 9) (tVar 10)) [9, 10] [some (.ref l), s1, s2, s3, s4, s5, some (.ref a), s7, some (.ref xa), v9, v10] H4 Q := by
  have sl := (BL.good_slice g i j).few
  refine ⟨_, rfl, _, rfl, _, rfl, l, a, r, m, i, j, rfl, hrow, hLa, g, gm, hij, hj, fun H5 sb s6 hsb hsb5 => ?_⟩
  exact comp_add (K := K) (Q := Q) (σ := [some (.ref l), s1, s2, s3, s4, s5, some (.ref a), s7, some (.ref xa), v9, v10]) rfl (s6 _ _ hxa) hsb5 (by omega) fun D H6 s7 hD h => k D H6 (s6.trans s7) (s6.free hD) h
def rd_pl_inner (K : PySem.W.Frag) : TS := tFor (iList K (tVar 8)) (gName 9) (tDrop (tBM K "list" rExtend (tVar 5) (tCons (tLst (tCons (tVar 9) (tCons (tVar 7) tNil))) tNil)))
abbrev flat2 (l : List (Int × Int)) : List Int := l.flatMap fun p => [p.1, p.2]
theorem xs_even (m : Measure) (last : Bool) (i : Nat) (l : Row) : Vamati.xsOf m true last i l = upto (fun k => (Vamati.indentOf m i + BL.beg l k) + Vamati.putTo (Vamati.roomOf m i) last l k) l.length := rfl
theorem xs_plain (m : Measure) (last : Bool) (i : Nat) (l : Row) : Vamati.xsOf m false last i l = upto (fun k => Vamati.indentOf m i + BL.beg l k) l.length := by
  unfold Vamati.xsOf upto
  congr 1
  funext k
  show _ + 0 = _
  rw [Int.add_zero]; rfl
def rd_item_places (K : PySem.W.Frag) (t : Adr) : TS :=
  (tSeq (tAsg (tLst tNil) (gName 5))
  (tSeq (tFor (iZip K (tCons (tVar 1) (tCons (tCall (sp_baselines K t) [] E0 (tCons (tVar 1) (tCons (tVar 3) (tCons (tVar 4) tNil)))) tNil))) (gTup K 2 (gCons (gName 6) (gCons (gName 7) gNil)))
    (tSeq (tAsg (tCall (sp_item_edges K t) [] E0 (tCons (tVar 0) (tCons (tVar 6) tNil))) (gName 8))
    (tSeq (tIfS (tTest (tOp rEq (tVar 2) (tC (.int 1))))
      (tAsg (tLc (iZip K (tCons (tVar 8) (tCons (tCall (sp_shifts K t) [] E0 (tCons (tVar 0) (tCons (tVar 6) tNil))) tNil))) (gTup K 2 (gCons (gName 9) (gCons (gName 10) gNil))) tYes (tOp (rI0 fun i j => .int (i + j)) (tVar 9) (tVar 10)) [9, 10]) (gName 8))
      tNext)
    (tFor (iList K (tVar 8)) (gName 9)
      (tDrop (tBM K "list" rExtend (tVar 5) (tCons (tLst (tCons (tVar 9) (tCons (tVar 7) tNil))) tNil)))))))
  (tRet (tVar 5))))
theorem rdok_item_places {K : PySem.W.Frag} {t : Adr} (T : Tx K t) {vs : List V} {H : Hp} {Q : VK} {E : XK} (h : sp_item_places K t vs H Q E) : rd_item_places K t { nx := fun _ H' => Q .non H', rt := Q } (L2.start ["boxes", "lines", "even", "lead", "gap", "found", "line", "y", "xs", "x", "shift"] vs) H := by
  obtain ⟨l, d, r, m, ls, e, lead, gap, rfl, hrow, hLs, ok, g, gm, k⟩ := h
  obtain ⟨xs, hx, hL⟩ := id hLs
  have few := ok.few
  have rfew := g.few
  have yl : (Vamati.baselines lead gap none (Vamati.rowsOf r ls)).length = ls.length := by rw [BL.base_len, BL.rows_len]
  have pg := fun {k : Nat} {p : Nat × Nat} {y : Int} => BL.PL_get (r := r) (lead := lead) (gap := gap) (ls := ls) (k := k) (p := p) (y := y)
  have pl := BL.PL_len r lead gap ls
  have inner := fun {D H4 s0 s1 s2 s3 s4 s6 v9 v10 f xa y zs acc} => @places_inner K D H4 s0 s1 s2 s3 s4 s6 v9 v10 f xa y zs acc
  show tSeq _ (tSeq (tFor _ _ (tSeq _ (tSeq _ (rd_pl_inner K)))) _) _ _ _
  change ∀ {D H4 s0 s1 s2 s3 s4 s6 v9 v10 f xa y zs acc}, _ → _ → _ → _ → _ → rd_pl_inner K D _ _ at inner
  generalize rd_pl_inner K = RR at inner ⊢
  walk_at "rd"
  refine ⟨Nat.zero_le _, fun f hf => ?_⟩
  have s0 := same_new (o := .lst []) hf
  refine ⟨_, rfl, _, rfl, _, rfl, _, rfl, d, r, m, ls, lead, gap, rfl, hLs.same s0, ok, fun H1 yb s1 hyb hyb1 => ?_⟩
  generalize BL.PL r lead gap ls = P at pg pl k
  generalize Vamati.baselines lead gap none (Vamati.rowsOf r ls) = ys at yl pg hyb1
  have s01 := s0.trans s1
  have hf1 := s1 _ _ (upd_same (a := f))
  have ybf : yb ≠ f := (ne_of_none (upd_same (a := f)) hyb).symm
  refine ⟨d, yb, xs, nv ys, rfl, SqL.of (s01 _ _ hx), SqL.of hyb1, ?_⟩
  refine for_zipL (fun n σ H2 => Same H H2 ∧ H2 yb = some (.lst (nv ys)) ∧ (∃ v6 v7 v8 v9 v10, σ = [some (.ref l), some (.ref d), some (.int e), some (.int lead), some (.int gap), some (.ref f), v6, v7, v8, v9, v10]) ∧ H2 f = some (.lst (nv (flat2 ((P.take n).flatMap (BL.FP r m (decide (e = 1)))))))) ⟨s01, hyb1, ⟨_, _, _, _, _, rfl⟩, hf1⟩ (by rw [hL.1, nv_len, yl]) (fun _ _ _ _ w => ⟨SqL.of (w.1 _ _ hx), SqL.of w.2.1⟩) ?_ ?_
  · rintro n x y σ H2 q hxn hyn ⟨hs, hyb2, ⟨v6, v7, v8, v9, v10, rfl⟩, hf2⟩ hq
    have hn : n < ls.length := by rw [← hL.1]; exact (List.getElem?_eq_some_iff.mp hxn).1
    obtain ⟨a, rfl, hLa⟩ := hL.2 n x _ hxn (List.getElem?_eq_getElem hn)
    obtain ⟨yv, hyv, rfl⟩ := nv_get hyn
    have hP := pg (List.getElem?_eq_getElem hn) hyv
    obtain ⟨hij, hj⟩ := ok.ok ls[n] (List.getElem_mem hn)
    have sl := BL.slice_len hij hj
    have sq := same_new (o := .tup [V.ref a, V.int yv]) hq
    have s2 := hs.trans sq
    have hf3 := sq _ _ hf2
    have hyb3 := sq _ _ hyb2
    walk_at "rd"
    refine ⟨_, SqT.of upd_same, rfl, _, _, rfl, _, _, rfl, rfl, ?_⟩
    generalize upd H2 q (.tup [V.ref a, V.int yv]) = H3 at s2 hf3 hyb3 ⊢
    refine ⟨l, a, r, m, ls[n].1, ls[n].2, rfl, hrow.same s2, hLa.same s2, g, hij, hj, fun H4 xa s4 hxa hxa4 => ?_⟩
    have s5 := s2.trans s4
    have hf4 := s4 _ _ hf3
    have hyb4 := s4 _ _ hyb3
    have xaf : xa ≠ f := (ne_of_none hf3 hxa).symm
    have alen : (flat2 ((P.take n).flatMap (BL.FP r m (decide (e = 1))))).length ≤ 2 * (300 * n) := by
      rw [BL.flat_const (k := 2) (fun _ => rfl)]
      have h1 := flat_le (F := BL.FP r m (decide (e = 1))) (c := 300) (P.take n) fun x hx => by
        obtain ⟨k', hk'⟩ := List.getElem?_of_mem (List.mem_of_mem_take hx)
        have hk2 : k' < ls.length := by rw [← pl]; exact (List.getElem?_eq_some_iff.mp hk').1
        have e1 := pg (List.getElem?_eq_getElem hk2) (List.getElem?_eq_getElem (by rw [yl]; exact hk2))
        rw [hk'] at e1
        rw [Option.some.inj e1, List.length_map, BL.xs_len]
        exact (BL.good_slice g _ _).few
      rw [List.length_take] at h1
      have : 300 * min n P.length ≤ 300 * n := Nat.mul_le_mul_left _ (Nat.min_le_left _ _)
      omega
    have fin : ∀ (H5 : Hp) (zs : List Int), But f H4 H5 → H5 f = some (.lst (nv (flat2 ((P.take n).flatMap (BL.FP r m (decide (e = 1)))) ++ zs.flatMap fun x => [x, yv]))) → zs = Vamati.xsOf m (decide (e = 1)) (decide (ls[n].2 + 1 = r.length)) ls[n].1 (Vamati.slice r ls[n].1 ls[n].2) →
        Same H H5 ∧ H5 yb = some (.lst (nv ys)) ∧ H5 f = some (.lst (nv (flat2 ((P.take (n + 1)).flatMap (BL.FP r m (decide (e = 1))))))) := fun H5 zs kb h5 hz => by
      refine ⟨fun b o eb => kb b o (s5 b o eb) (ne_of_none eb hf), kb _ _ hyb4 ybf, ?_⟩
      have hnP : n < P.length := by rw [pl]; exact hn
      rw [h5, List.take_succ_eq_append_getElem hnP, (List.getElem?_eq_some_iff.mp hP).2, List.flatMap_append]
      unfold flat2
      rw [List.flatMap_append]
      have e1 : [((ls[n], Vamati.slice r ls[n].1 ls[n].2), yv)].flatMap (BL.FP r m (decide (e = 1))) = BL.FP r m (decide (e = 1)) ((ls[n], Vamati.slice r ls[n].1 ls[n].2), yv) := by rw [List.flatMap_cons, List.flatMap_nil, List.append_nil]
      rw [e1, BL.FP_flat, hz]
    by_cases he : e = 1
    · refine (if_pos he).mpr ?_
      refine places_even (i := ls[n].1) (j := ls[n].2) (hrow.same s5) (hLa.same s5) g gm hij hj hxa4 fun D H6 s67 hD hD6 => ?_
      have hf6 := s67 _ _ hf4
      refine inner hf6 hD6 (ne_of_none hf4 hD).symm (by rw [upto_len]; omega) fun H7 w9 kb h7 => ?_
      obtain ⟨a1, a2, a3⟩ := fin H7 _ (But.trans (Same.but s67) kb) h7 (by rw [decide_eq_true he, xs_even])
      exact ⟨a1, a2, ⟨_, _, _, _, _, rfl⟩, a3⟩
    · refine (if_neg he).mpr ?_
      refine inner hf4 hxa4 xaf (by rw [upto_len]; omega) fun H7 w9 kb h7 => ?_
      obtain ⟨a1, a2, a3⟩ := fin H7 _ kb h7 (by rw [decide_eq_false he, xs_plain])
      exact ⟨a1, a2, ⟨_, _, _, _, _, rfl⟩, a3⟩
  · rintro σ H2 ⟨hs, hyb2, ⟨v6, v7, v8, v9, v10, rfl⟩, hf2⟩
    walk_at "rd"
    rw [hL.1, ← pl, List.take_length] at hf2
    exact k H2 f hs hf hf2
/-! ### the box, the ranges, judge -/
theorem LsOk.of {r : Row} (g : BL.Good r) {es : List Nat} (hb : Vamati.isBreaking r 0 es = true) : LsOk r (Vamati.linesOf 0 es) := by
  have h1 := BL.breaks_len es 0 hb
  have h2 := g.few
  refine ⟨by rw [BL.linesOf_len]; omega, fun p hp => ?_⟩
  have := BL.lines_ok es 0 hb p hp
  exact ⟨this.1, this.2.1⟩
theorem best_breaks {r : Row} (g : BL.Good r) {m : Measure} (gm : BL.GoodM m) : Vamati.isBreaking r 0 (Vamati.bestOf r m).ends = true := (BL.B_breaks g gm (m := m) r.length 0 (by omega)).2
def rd_outer_box (K : PySem.W.Frag) (t : Adr) : TS :=
  (tSeq (tIfS (tNot (fun σ H Q => (tVar 0) σ H fun x H' => ∃ k, TruV K x H' k ∧ Q k H'))
    (tRet (tLst (tCons (tC (.int 0)) (tCons (tC (.int 0)) (tCons (tC (.int 0)) tNil)))))
    tNext)
  (tSeq (tAsg (tCB (rMax K) (tCons (tLc (iList K (tVar 0)) (gName 4) tYes (tOp (rI0 fun i j => .int (i + j)) (tFld K (tVar 4) "indent") (tFld K (tVar 4) "natural")) [4]) tNil)) (gName 3))
  (tRet (tLst (tCons (tVar 3) (tCons (tOp (rIxL K) (tCall (sp_baselines K t) [] E0 (tCons (tVar 0) (tCons (tVar 1) (tCons (tVar 2) tNil)))) (tUn (rU fun i => .int (-i)) (tC (.int 1)))) (tCons (tFld K (tOp (rIxL K) (tVar 0) (tUn (rU fun i => .int (-i)) (tC (.int 1)))) "depth") tNil)))))))
theorem rdok_outer_box {K : PySem.W.Frag} {t : Adr} (T : Tx K t) {vs : List V} {H : Hp} {Q : VK} {E : XK} (h : sp_outer_box K t vs H Q E) : rd_outer_box K t { nx := fun _ H' => Q .non H', rt := Q } (L2.start ["lines", "lead", "gap", "right", "line"] vs) H := by
  obtain ⟨d, r, m, lead, gap, rfl, hLs, g, gm, k⟩ := h
  obtain ⟨xs, hx, hL⟩ := id hLs
  have ok := LsOk.of g (best_breaks g gm)
  have few := ok.few
  have hlen := hL.1
  unfold rd_outer_box
  walk_at "rd"
  have z3 : 3 ≤ sizeLine := by rw [sizeLine_eq]; omega
  cases e : xs with
  | nil =>
    rw [e] at hx hlen
    refine ⟨false, .inl ⟨[], SqL.of hx, rfl⟩, ?_⟩
    rw [if_pos rfl]
    refine ⟨z3, fun p hp => k _ p (same_new hp) hp ?_⟩
    have e0 : Vamati.linesOf 0 (Vamati.bestOf r m).ends = [] := List.eq_nil_of_length_eq_zero hlen.symm
    have e1 : Vamati.boxAnswer r m lead gap = [0, 0, 0, 0] := by
      unfold Vamati.boxAnswer
      rw [BL.places_eq, e0]; rfl
    rw [upd_same, e1]; rfl
  | cons x0 xs' =>
    refine ⟨true, .inl ⟨xs, SqL.of hx, by rw [e]; rfl⟩, ?_⟩
    rw [if_neg (by decide)]
    refine comp_var (ns := (Vamati.linesOf 0 (Vamati.bestOf r m).ends).map fun p => Vamati.indentOf m p.1 + Vamati.naturalOf (Vamati.slice r p.1 p.2)) rfl (SqL.of hx) (by rw [List.length_map]; exact hL.1) (by rw [List.length_map]; omega) (by show 4 < 5; decide) ?_ fun D H1 s1 hD hD1 => ?_
    · intro i x z σ' H' R hx hz hs h1 hR
      rw [List.getElem?_map] at hz
      cases e : (Vamati.linesOf 0 (Vamati.bestOf r m).ends)[i]? with
      | none => rw [e] at hz; cases hz
      | some p =>
        rw [e] at hz
        obtain ⟨a, rfl, dx, fs, ha, hF⟩ := hL.2 i x p hx e
        refine ⟨_, hs, a, t.Line, dx, fs, _, rfl, h1 _ _ ha, T.clsL, T.lindent, hF.indent, _, hs, a, t.Line, dx, fs, _, rfl, h1 _ _ ha, T.clsL, T.lnatural, hF.natural, _, _, rfl, rfl, ?_⟩
        have e2 : Vamati.indentOf m p.1 + Vamati.naturalOf (Vamati.slice r p.1 p.2) = z := Option.some.inj hz
        show R (.int (Vamati.indentOf m p.1 + Vamati.naturalOf (Vamati.slice r p.1 p.2))) H'
        rw [e2]; exact hR
    obtain ⟨n, hn⟩ : ∃ n, (Vamati.linesOf 0 (Vamati.bestOf r m).ends).length = n + 1 := ⟨xs'.length, by rw [← hlen, e]; rfl⟩
    refine ⟨D, _, rfl, SqL.of hD1, by rw [List.length_map]; omega, fun M h1 h2 => ?_⟩
    have hright := BL.box_right g gm lead gap h1 h2
    refine ⟨d, r, m, _, lead, gap, rfl, hLs.same s1, ok, fun H2 yb s2 hyb hyb2 => ?_⟩
    have yl : (Vamati.baselines lead gap none (Vamati.rowsOf r (Vamati.linesOf 0 (Vamati.bestOf r m).ends))).length = n + 1 := by rw [BL.base_len, BL.rows_len, hn]
    have hp : (Vamati.linesOf 0 (Vamati.bestOf r m).ends)[n]? = some (Vamati.linesOf 0 (Vamati.bestOf r m).ends)[n] := List.getElem?_eq_getElem (by omega)
    obtain ⟨y, hy⟩ : ∃ y, (Vamati.baselines lead gap none (Vamati.rowsOf r (Vamati.linesOf 0 (Vamati.bestOf r m).ends)))[n]? = some y := ⟨_, List.getElem?_eq_getElem (by omega)⟩
    obtain ⟨b1, b2⟩ := BL.box_last g gm lead gap hn hp hy
    obtain ⟨a, ha, dx, fs, hpa, hF⟩ := mem_line hL (n := n) (by omega)
    have s12 := s1.trans s2
    refine ⟨yb, rfl, _, SqL.of hyb2, .int y, ?_, ?_⟩
    · rw [atI_neg1 (by rw [nv_len, yl]; omega), nv_len, yl]
      exact nv_at hy
    · refine ⟨_, rfl, _, rfl, d, xs, _, .ref a, rfl, rfl, SqL.of (s12 _ _ hx), ?_, a, t.Line, dx, fs, _, rfl, s12 _ _ hpa, T.clsL, T.ldepth, hF.depth, z3, fun p hp2 => k _ p (s12.trans (same_new hp2)) (s12.free hp2) ?_⟩
      · show atI xs (-1) = _
        rw [atI_neg1 (by rw [hlen, hn]; omega), hlen, hn]
        exact ha
      · rw [upd_same]
        have eb : Vamati.boxAnswer r m lead gap = [0, M, y, Vamati.depthOf (Vamati.slice r (Vamati.linesOf 0 (Vamati.bestOf r m).ends)[n].1 (Vamati.linesOf 0 (Vamati.bestOf r m).ends)[n].2)] := by
          unfold Vamati.boxAnswer
          simp only
          rw [hright, b1, b2]
        rw [eb]; rfl
def rd_most_wholes (K : PySem.W.Frag) (t : Adr) : TS :=
  (tSeq (tIfS (tTest (tOp rEq (tVar 0) (tC (.int (10)))))
    (tRet (tC (.ref t.MOST_OF_PLACES)))
    tNext)
  (tSeq (tIfS (tTest (tOp rEq (tVar 0) (tC (.int (11)))))
    (tRet (tC (.ref t.MOST_OF_BOX)))
    tNext)
  (tRet (tC (.ref t.MOST_OF_MEASURE)))))
theorem rdok_most_wholes {K : PySem.W.Frag} {t : Adr} (T : Tx K t) {vs : List V} {H : Hp} {Q : VK} {E : XK} (h : sp_most_wholes K t vs H Q E) : rd_most_wholes K t { nx := fun _ H' => Q .non H', rt := Q } (L2.start ["call"] vs) H := by
  obtain ⟨c, rfl, k⟩ := h
  unfold rd_most_wholes
  unfold mostAt at k
  walk_at "rd"
  by_cases h1 : c = 10
  · rw [if_pos h1] at k ⊢; exact k
  · rw [if_neg h1] at k ⊢
    by_cases h2 : c = 11
    · rw [if_pos h2] at k ⊢; exact k
    · rw [if_neg h2] at k ⊢; exact k
theorem for_zlt {K : PySem.W.Frag} {g : TG} {tb : TS} {D : Ends} {σ : St} {H : Hp} {ta : TA} {a b : Addr} {xs ys : List V} (he : ∀ R : List V → Hp → Prop, R [.ref a, .ref b] H → ta σ H R) (h1 : SqL K H a xs) (h2 : SqT K H b ys) (Pv : Nat → St → Hp → Prop) (h0 : Pv 0 σ H) (hlen : xs.length = ys.length) (hl : ∀ i σ H, i ≤ xs.length → Pv i σ H → SqL K H a xs ∧ SqT K H b ys)
    (hs : ∀ i x y σ H q, xs[i]? = some x → ys[i]? = some y → Pv i σ H → H q = none → g (.ref q) σ (upd H q (.tup [x, y])) fun σ2 H2 => tb { D with nx := Pv (i + 1), ct := Pv (i + 1), bk := D.nx } σ2 H2) (hd : ∀ σ H, Pv xs.length σ H → D.nx σ H) : tFor (iZipLT K ta) g tb D σ H :=
  he _ ⟨a, b, xs, ys, rfl, h1, h2, for_zipLT Pv h0 hlen hl hs hd⟩
theorem inR_take {ws ms : List Int} {i : Nat} {x y : Int} (hx : ws[i]? = some x) (hy : ms[i]? = some y) : ((ws.zip ms).take (i + 1)).all (fun p => decide (0 ≤ p.1) && decide (p.1 ≤ p.2)) = (((ws.zip ms).take i).all (fun p => decide (0 ≤ p.1) && decide (p.1 ≤ p.2)) && (decide (0 ≤ x) && decide (x ≤ y))) := by
  have e : (ws.zip ms)[i]? = some (x, y) := by rw [List.getElem?_zip_eq_some]; exact ⟨hx, hy⟩
  rw [List.take_succ_eq_append_getElem (List.getElem?_eq_some_iff.mp e).1, List.all_append, (List.getElem?_eq_some_iff.mp e).2]
  simp
theorem inR_not {ws ms : List Int} {i : Nat} (h : ((ws.zip ms).take i).all (fun p => decide (0 ≤ p.1) && decide (p.1 ≤ p.2)) = false) : inR ws ms = false := by
  unfold inR
  rw [List.all_eq_false] at *
  obtain ⟨x, hx, q⟩ := h
  exact ⟨x, List.mem_of_mem_take hx, q⟩
def rd_in_range (K : PySem.W.Frag) (t : Adr) : TS :=
  (tSeq (tFor (iZipLT K (tCons (tVar 0) (tCons (tVar 1) tNil))) (gTup K 2 (gCons (gName 2) (gCons (gName 3) gNil)))
    (tIfS (tNot (tTest (tChain (rI0 fun i j => .bl (decide (i ≤ j))) (rI0 fun i j => .bl (decide (i ≤ j))) (tC (.int 0)) (tVar 2) (tVar 3))))
      (tRet (tC (.bl false)))
      tNext))
  (tRet (tC (.bl true))))
theorem rdok_in_range {K : PySem.W.Frag} {t : Adr} (T : Tx K t) {vs : List V} {H : Hp} {Q : VK} {E : XK} (h : sp_in_range K t vs H Q E) : rd_in_range K t { nx := fun _ H' => Q .non H', rt := Q } (L2.start ["wholes", "mosts", "number", "most"] vs) H := by
  obtain ⟨p, q, ws, ms, rfl, hp, hq, hlen, k⟩ := h
  unfold rd_in_range
  refine for_zlt (a := p) (b := q) (fun R h => ⟨_, rfl, _, rfl, h⟩) hp hq (fun i σ H' => Same H H' ∧ (∃ v w, σ = [some (.ref p), some (.ref q), v, w]) ∧ ((ws.zip ms).take i).all (fun p => decide (0 ≤ p.1) && decide (p.1 ≤ p.2)) = true) ⟨Same.refl H, ⟨_, _, rfl⟩, rfl⟩ (by rw [nv_len, nv_len, hlen]) (fun i σ H' _ w => ⟨w.1.seq hp, Same.sqT w.1 hq⟩) ?_ ?_
  · rintro i x y σ H' z hx hy ⟨hs, ⟨v, w, rfl⟩, hok⟩ hz
    obtain ⟨n, hn, rfl⟩ := nv_get hx
    obtain ⟨b, hb, rfl⟩ := nv_get hy
    have s2 : Same H (upd H' z (.tup [V.int n, V.int b])) := hs.trans (same_new hz)
    have e1 := inR_take hn hb
    rw [hok, Bool.true_and] at e1
    walk_at "rd"
    refine ⟨_, SqT.of upd_same, rfl, _, _, rfl, _, _, rfl, rfl, _, rfl, ?_⟩
    have bad : ((ws.zip ms).take (i + 1)).all (fun p => decide (0 ≤ p.1) && decide (p.1 ≤ p.2)) = false → Q (V.bl false) (upd H' z (.tup [V.int n, V.int b])) := fun e2 => by
      have := k _ s2
      rwa [inR_not e2] at this
    by_cases h1 : 0 ≤ n
    · by_cases h2 : n ≤ b
      · have e2 := e1
        rw [decide_eq_true h1, decide_eq_true h2] at e2
        simp [h1, h2, show ¬ b < n by omega]
        exact ⟨s2, by simpa using e2⟩
      · have e2 := bad (by rw [e1, decide_eq_true h1, decide_eq_false h2]; rfl)
        simp [h1, h2, show b < n by omega]
        exact e2
    · have e2 := bad (by rw [e1, decide_eq_false h1]; rfl)
      simp [h1]
      exact e2
  · rintro σ H' ⟨hs, ⟨v, w, rfl⟩, hok⟩
    walk_at "rd"
    have e : inR ws ms = true := by
      unfold inR
      rw [nv_len] at hok
      rwa [List.take_of_length_le (by rw [List.length_zip]; omega)] at hok
    have := k _ hs
    rwa [e] at this
theorem done_plus {σ : St} {H : Hp} {Q : VK} {te : TE} {ans : List Int} (hlen : ans.length ≤ 100000) (k : Tells H (0 :: ans) Q) (h : ∀ (H1 : Hp) (Q' : VK), Same H H1 → Tells H1 ans Q' → te σ H1 Q') : tOp rCat (tLst (tCons (tC (.int 0)) tNil)) te σ H Q := by
  refine ⟨one_le, fun a ha => ?_⟩
  have s1 := same_new (o := .lst [V.int 0]) ha
  refine h _ _ s1 fun H2 q s2 hq hq2 => ?_
  refine ⟨a, q, _, _, rfl, rfl, s2 _ _ upd_same, hq2, by rw [nv_len, sizeLine_eq, List.length_singleton]; omega, fun p hp => ?_⟩
  exact k _ p ((s1.trans s2).trans (same_new hp)) ((s1.trans s2).free hp) (by rw [upd_same]; rfl)
def rd_judge (K : PySem.W.Frag) (t : Adr) : TS :=
  (tSeq (tIfS (tNot (fun σ H Q => (tCall (sp_is_breaking K t) [] E0 (tCons (tVar 0) (tCons (tVar 2) tNil))) σ H fun x H' => ∃ k, TruV K x H' k ∧ Q k H'))
    (tRet (tLst (tCons (tC (.int (-6))) tNil)))
    tNext)
  (tRet (tOp rCat (tLst (tCons (tC (.int (0))) tNil)) (tCall (sp_totals K t) [] E0 (tCons (tCall (sp_set_lines K t) [] E0 (tCons (tVar 0) (tCons (tVar 2) (tCons (tVar 1) tNil)))) tNil)))))
theorem rdok_judge {K : PySem.W.Frag} {t : Adr} (T : Tx K t) {vs : List V} {H : Hp} {Q : VK} {E : XK} (h : sp_judge K t vs H Q E) : rd_judge K t { nx := fun _ H' => Q .non H', rt := Q } (L2.start ["boxes", "measure", "ends"] vs) H := by
  obtain ⟨l, p, e, r, m, es, rfl, hrow, hm, g, gm, he, k⟩ := h
  unfold rd_judge
  refine ⟨_, rfl, _, rfl, l, e, r, es, rfl, hrow, g, he, _, rfl, ?_⟩
  by_cases hb : BL.brkI r 0 es = true
  · rw [hb]
    obtain ⟨j1, j2, j3⟩ := BL.judge_yes (m := m) hb
    obtain ⟨w1, w2, w3⟩ := BL.worth_lines r m (es.map Int.toNat) 0
    refine (if_neg (by decide)).mpr ?_
    have ans : Vamati.judgeAnswer r m es = 0 :: [Vamati.sum ((Vamati.linesOf 0 (es.map Int.toNat)).map fun p => Vamati.overOf (Vamati.roomOf m p.1) (Vamati.slice r p.1 p.2)), Vamati.sum ((Vamati.linesOf 0 (es.map Int.toNat)).map fun p => Vamati.costOf (Vamati.roomOf m p.1) (decide (p.2 + 1 = r.length)) (Vamati.slice r p.1 p.2)), ((Vamati.linesOf 0 (es.map Int.toNat)).length : Int)] := by
      rw [j1]
      unfold Vamati.worthAnswer
      rw [w1, w2, w3]
    rw [ans] at k
    have ee : es = Vamati.nats (es.map Int.toNat) := by
      unfold Vamati.nats
      rw [List.map_map]
      conv => lhs; rw [← List.map_id es]
      refine List.map_congr_left fun z hz => ?_
      have := j3 z hz
      show z = ((z.toNat : Nat) : Int)
      omega
    refine done_plus (by show 3 ≤ _; omega) k fun H1 Q' s1 k1 => ?_
    refine ⟨_, rfl, _, rfl, _, rfl, l, e, p, r, m, es.map Int.toNat, rfl, hrow.same s1, by rw [← ee]; exact s1 _ _ he, hm.same s1, g, gm, j2, fun H2 d s2 hd hL => ?_⟩
    exact ⟨d, r, m, _, rfl, hL, LsOk.of g j2, k1.after s2⟩
  · rw [Bool.not_eq_true] at hb
    rw [hb]
    rw [BL.judge_no hb] at k
    refine (if_pos (by decide)).mpr ?_
    exact ⟨one_le, fun q hq => k _ q (same_new hq) hq upd_same⟩
/-! ### calls with a measure -/
theorem skip_if {c n : Int} {ta tr : TS} {D : Ends} {σ : St} {H : Hp} (h : c ≠ n) (hσ : σ[1]? = some (some (.int c))) (k : tr D σ H) : tSeq (tIfS (tTest (tOp rEq (tVar 1) (tC (.int n)))) ta tNext) tr D σ H := by
  refine ⟨_, hσ, rfl, _, rfl, ?_⟩
  rw [decide_eq_false (by intro z; injection z; exact h (by assumption))]
  exact (if_neg (by decide)).mpr k
theorem hit_if {c : Int} {te : TE} {tr : TS} {D : Ends} {σ : St} {H : Hp} (hσ : σ[1]? = some (some (.int c))) (k : te σ H D.rt) : tSeq (tIfS (tTest (tOp rEq (tVar 1) (tC (.int c)))) (tRet te) tNext) tr D σ H := by
  refine ⟨_, hσ, rfl, _, rfl, ?_⟩
  rw [decide_eq_true rfl]
  exact (if_pos rfl).mpr k
theorem make_measure {K : PySem.W.Frag} {t : Adr} {σ : St} {H : Hp} {Q : VK} {d : Addr} {a b c : Int} {w : List Int} (h2 : σ[2]? = some (some (.ref d))) (hd : H d = some (.lst (nv (a :: b :: c :: w)))) (k : ∀ H' x, Same H H' → H x = none → MeasAt t H' x ⟨a, b, c⟩ → Q (.ref x) H') :
    tMake t.Measure (sp_Measure K t) [] E0 (tCons (tOp (rIxL K) (tVar 2) (tC (.int 0))) (tCons (tOp (rIxL K) (tVar 2) (tC (.int 1))) (tCons (tOp (rIxL K) (tVar 2) (tC (.int 2))) tNil))) σ H Q := by
  refine ⟨_, h2, d, _, 0, .int a, rfl, rfl, SqL.of hd, atI_nat (j := 0) rfl, _, h2, d, _, 1, .int b, rfl, rfl, SqL.of hd, atI_nat (j := 1) rfl, _, h2, d, _, 2, .int c, rfl, rfl, SqL.of hd, atI_nat (j := 2) rfl, fun x dx nx ndx ne => ?_⟩
  have s : Same H (upd (upd H dx (.own x)) x (.ins t.Measure dx [])) := fun b o e => by rw [upd_ne (ne_of_none e nx), upd_ne (ne_of_none e ndx)]; exact e
  exact ⟨x, dx, ⟨a, b, c⟩, rfl, upd_same, fun H' hM hR => ⟨rfl, k H' x (fun b o e => hR b o (s _ _ e) (ne_of_none e nx)) nx hM⟩⟩
def rd_awm_rest (K : PySem.W.Frag) (t : Adr) : TS :=
  (tSeq (tIfS (tTest (tOp rEq (tVar 1) (tC (.int (7)))))
    (tRet (tCall (sp_judge K t) [] E0 (tCons (tVar 0) (tCons (tVar 4) (tCons (tVar 3) tNil)))))
    tNext)
  (tSeq (tIfS (tTest (tOp rEq (tVar 1) (tC (.int (8)))))
    (tRet (tOp rCat (tLst (tCons (tC (.int (0))) tNil)) (tCall (sp_greedy_breaking K t) [] E0 (tCons (tVar 0) (tCons (tVar 4) tNil)))))
    tNext)
  (tSeq (tAsg (tCall (sp_best_breaking K t) [] E0 (tCons (tVar 0) (tCons (tVar 4) tNil))) (gName 5))
  (tSeq (tIfS (tTest (tOp rEq (tVar 1) (tC (.int (5)))))
    (tRet (tOp rCat (tLst (tCons (tC (.int (0))) tNil)) (tVar 5)))
    tNext)
  (tSeq (tAsg (tCall (sp_set_lines K t) [] E0 (tCons (tVar 0) (tCons (tVar 5) (tCons (tVar 4) tNil)))) (gName 6))
  (tSeq (tIfS (tTest (tOp rEq (tVar 1) (tC (.int (6)))))
    (tRet (tOp rCat (tLst (tCons (tC (.int (0))) tNil)) (tCall (sp_totals K t) [] E0 (tCons (tVar 6) tNil))))
    tNext)
  (tSeq (tIfS (tTest (tOp rEq (tVar 1) (tC (.int (9)))))
    (tRet (tOp rCat (tLst (tCons (tC (.int (0))) tNil)) (tCall (sp_line_numbers K t) [] E0 (tCons (tVar 6) tNil))))
    tNext)
  (tSeq (tIfS (tTest (tOp rEq (tVar 1) (tC (.int (10)))))
    (tRet (tOp rCat (tLst (tCons (tC (.int (0))) tNil)) (tCall (sp_item_places K t) [] E0 (tCons (tVar 0) (tCons (tVar 6) (tCons (tOp (rIxL K) (tVar 2) (tC (.int 3))) (tCons (tOp (rIxL K) (tVar 2) (tC (.int 4))) (tCons (tOp (rIxL K) (tVar 2) (tC (.int 5))) tNil))))))))
    tNext)
  (tRet (tOp rCat (tLst (tCons (tC (.int (0))) tNil)) (tCall (sp_outer_box K t) [] E0 (tCons (tVar 6) (tCons (tOp (rIxL K) (tVar 2) (tC (.int 3))) (tCons (tOp (rIxL K) (tVar 2) (tC (.int 4))) tNil))))))))))))))
def rd_answer_with_measure (K : PySem.W.Frag) (t : Adr) : TS :=
  (tSeq (tIfS (tNot (fun σ H Q => (tCall (sp_in_range K t) [] E0 (tCons (tVar 2) (tCons (tCall (sp_most_wholes K t) [] E0 (tCons (tVar 1) tNil)) tNil))) σ H fun x H' => ∃ k, TruV K x H' k ∧ Q k H'))
    (tRet (tLst (tCons (tC (.int (-4))) tNil)))
    tNext)
  (tSeq (tAsg (tMake t.Measure (sp_Measure K t) [] E0 (tCons (tOp (rIxL K) (tVar 2) (tC (.int 0))) (tCons (tOp (rIxL K) (tVar 2) (tC (.int 1))) (tCons (tOp (rIxL K) (tVar 2) (tC (.int 2))) tNil)))) (gName 4))
  (tSeq (tIfS (tTest (tOp rEq (tVar 1) (tC (.int (7)))))
    (tRet (tCall (sp_judge K t) [] E0 (tCons (tVar 0) (tCons (tVar 4) (tCons (tVar 3) tNil)))))
    tNext)
  (tSeq (tIfS (tTest (tOp rEq (tVar 1) (tC (.int (8)))))
    (tRet (tOp rCat (tLst (tCons (tC (.int (0))) tNil)) (tCall (sp_greedy_breaking K t) [] E0 (tCons (tVar 0) (tCons (tVar 4) tNil)))))
    tNext)
  (tSeq (tAsg (tCall (sp_best_breaking K t) [] E0 (tCons (tVar 0) (tCons (tVar 4) tNil))) (gName 5))
  (tSeq (tIfS (tTest (tOp rEq (tVar 1) (tC (.int (5)))))
    (tRet (tOp rCat (tLst (tCons (tC (.int (0))) tNil)) (tVar 5)))
    tNext)
  (tSeq (tAsg (tCall (sp_set_lines K t) [] E0 (tCons (tVar 0) (tCons (tVar 5) (tCons (tVar 4) tNil)))) (gName 6))
  (tSeq (tIfS (tTest (tOp rEq (tVar 1) (tC (.int (6)))))
    (tRet (tOp rCat (tLst (tCons (tC (.int (0))) tNil)) (tCall (sp_totals K t) [] E0 (tCons (tVar 6) tNil))))
    tNext)
  (tSeq (tIfS (tTest (tOp rEq (tVar 1) (tC (.int (9)))))
    (tRet (tOp rCat (tLst (tCons (tC (.int (0))) tNil)) (tCall (sp_line_numbers K t) [] E0 (tCons (tVar 6) tNil))))
    tNext)
  (tSeq (tIfS (tTest (tOp rEq (tVar 1) (tC (.int (10)))))
    (tRet (tOp rCat (tLst (tCons (tC (.int (0))) tNil)) (tCall (sp_item_places K t) [] E0 (tCons (tVar 0) (tCons (tVar 6) (tCons (tOp (rIxL K) (tVar 2) (tC (.int 3))) (tCons (tOp (rIxL K) (tVar 2) (tC (.int 4))) (tCons (tOp (rIxL K) (tVar 2) (tC (.int 5))) tNil))))))))
    tNext)
  (tRet (tOp rCat (tLst (tCons (tC (.int (0))) tNil)) (tCall (sp_outer_box K t) [] E0 (tCons (tVar 6) (tCons (tOp (rIxL K) (tVar 2) (tC (.int 3))) (tCons (tOp (rIxL K) (tVar 2) (tC (.int 4))) tNil))))))))))))))))
theorem awm_head {K : PySem.W.Frag} {t : Adr} (T : Tx K t) {H : Hp} {Q : VK} {l d e : Addr} {p a b c : Int} {w ms : List Int} (hd : H d = some (.lst (nv (a :: b :: c :: w)))) (hms : SqT K H (mostAt t p) (nv ms)) (hlen : (a :: b :: c :: w).length = ms.length)
    (no : inR (a :: b :: c :: w) ms = false → Tells H [-4] Q)
    (yes : inR (a :: b :: c :: w) ms = true → ∀ H2 mp, Same H H2 → MeasAt t H2 mp ⟨a, b, c⟩ → rd_awm_rest K t { nx := fun _ H' => Q .non H', rt := Q } [some (.ref l), some (.int p), some (.ref d), some (.ref e), some (.ref mp), none, none] H2) :
    rd_answer_with_measure K t { nx := fun _ H' => Q .non H', rt := Q } (L2.start ["boxes", "call", "wholes", "numbers", "measure", "ends", "best_lines"] [.ref l, .int p, .ref d, .ref e]) H := by
  unfold rd_answer_with_measure
  refine ⟨_, rfl, _, rfl, p, rfl, d, mostAt t p, _, ms, rfl, SqL.of hd, hms, hlen, fun H1 s1 => ⟨_, rfl, ?_⟩⟩
  by_cases h : inR (a :: b :: c :: w) ms = true
  · rw [h]
    refine (if_neg (by decide)).mpr ?_
    exact make_measure (Q := fun x H1 => rd_awm_rest K t { nx := fun _ H' => Q .non H', rt := Q } [some (.ref l), some (.int p), some (.ref d), some (.ref e), some x, none, none] H1) rfl (s1 _ _ hd) fun H2 mp s2 hmp hM => yes h H2 mp (s1.trans s2) hM
  · rw [Bool.not_eq_true] at h
    rw [h]
    refine (if_pos (by decide)).mpr ?_
    exact ⟨one_le, fun q hq => no h _ q (s1.trans (same_new hq)) (s1.free hq) upd_same⟩
theorem in3 {a b c : Int} {f : Measure → Vamati.Answer} : (inR [a, b, c] mostM = true → BL.GoodM ⟨a, b, c⟩ ∧ Vamati.withMeasure a b c [] f = f ⟨a, b, c⟩) ∧ (inR [a, b, c] mostM = false → Vamati.withMeasure a b c [] f = [-4]) := by
  have e : inR [a, b, c] mostM = ([a, b, c].all (Vamati.within 0 Vamati.FARMOST) && ([] : List Int).all (Vamati.within 0 Vamati.MOST)) := by simp [inR, mostM, Vamati.within, Vamati.FARMOST]
  refine ⟨fun h => ?_, fun h => ?_⟩
  · refine ⟨?_, by unfold Vamati.withMeasure; rw [← e, h]; rfl⟩
    simp [inR, mostM] at h
    exact ⟨by simp only; omega, by simp only; omega, by simp only; omega⟩
  · unfold Vamati.withMeasure; rw [← e, h]; rfl
theorem in5 {a b c d q : Int} {f : Measure → Vamati.Answer} : (inR [a, b, c, d, q] mostB = true → BL.GoodM ⟨a, b, c⟩ ∧ Vamati.withMeasure a b c [d, q] f = f ⟨a, b, c⟩) ∧ (inR [a, b, c, d, q] mostB = false → Vamati.withMeasure a b c [d, q] f = [-4]) := by
  have e : inR [a, b, c, d, q] mostB = ([a, b, c].all (Vamati.within 0 Vamati.FARMOST) && [d, q].all (Vamati.within 0 Vamati.MOST)) := by simp [inR, mostB, Vamati.within, Vamati.FARMOST, Vamati.MOST, Bool.and_assoc]
  refine ⟨fun h => ?_, fun h => ?_⟩
  · refine ⟨?_, by unfold Vamati.withMeasure; rw [← e, h]; rfl⟩
    simp [inR, mostB] at h
    exact ⟨by simp only; omega, by simp only; omega, by simp only; omega⟩
  · unfold Vamati.withMeasure; rw [← e, h]; rfl
theorem in6 {a b c e d q : Int} {f : Measure → Vamati.Answer} : (inR [a, b, c, e, d, q] mostP = true → BL.GoodM ⟨a, b, c⟩ ∧ Vamati.withMeasure a b c [d, q] (fun m => if Vamati.within 0 1 e = true then f m else [-4]) = f ⟨a, b, c⟩) ∧ (inR [a, b, c, e, d, q] mostP = false → Vamati.withMeasure a b c [d, q] (fun m => if Vamati.within 0 1 e = true then f m else [-4]) = [-4]) := by
  have e1 : inR [a, b, c, e, d, q] mostP = (([a, b, c].all (Vamati.within 0 Vamati.FARMOST) && [d, q].all (Vamati.within 0 Vamati.MOST)) && Vamati.within 0 1 e) := by
    rw [Bool.eq_iff_iff]
    simp [inR, mostP, Vamati.within, Vamati.FARMOST, Vamati.MOST]
    omega
  refine ⟨fun h => ?_, fun h => ?_⟩
  · have h' := h
    rw [e1, Bool.and_eq_true] at h'
    refine ⟨?_, by unfold Vamati.withMeasure; rw [if_pos h'.1]; exact if_pos h'.2⟩
    simp [inR, mostP] at h
    exact ⟨by simp only; omega, by simp only; omega, by simp only; omega⟩
  · rw [e1, Bool.and_eq_false_iff] at h
    unfold Vamati.withMeasure
    rcases h with h | h
    · rw [if_neg (by rw [h]; decide)]
    · split
      · exact if_neg (by rw [h]; decide)
      · rfl
theorem ends_few {r : Row} (g : BL.Good r) {m : Measure} (gm : BL.GoodM m) : (Vamati.bestOf r m).ends.length ≤ 300 := by
  have h1 := BL.breaks_len _ 0 (best_breaks g gm)
  have h2 := g.few
  omega
/-- the best breaking's lines are set -/
theorem awm_lines {K : PySem.W.Frag} {t : Adr} {H : Hp} {Q : VK} {l d e mp : Addr} {p : Int} {r : Row} {m : Measure} (hrow : RowAt K H l r) (hm : MeasAt t H mp m) (g : BL.Good r) (gm : BL.GoodM m) (h7 : p ≠ 7) (h8 : p ≠ 8)
    (k5 : p = 5 → Tells H (0 :: Vamati.nats (Vamati.bestOf r m).ends) Q)
    (k : p ≠ 5 → ∀ H2 es bl, Same H H2 → LinesAt t H2 bl r m (Vamati.linesOf 0 (Vamati.bestOf r m).ends) → (tSeq (tIfS (tTest (tOp rEq (tVar 1) (tC (.int (6)))))
    (tRet (tOp rCat (tLst (tCons (tC (.int (0))) tNil)) (tCall (sp_totals K t) [] E0 (tCons (tVar 6) tNil))))
    tNext)
  (tSeq (tIfS (tTest (tOp rEq (tVar 1) (tC (.int (9)))))
    (tRet (tOp rCat (tLst (tCons (tC (.int (0))) tNil)) (tCall (sp_line_numbers K t) [] E0 (tCons (tVar 6) tNil))))
    tNext)
  (tSeq (tIfS (tTest (tOp rEq (tVar 1) (tC (.int (10)))))
    (tRet (tOp rCat (tLst (tCons (tC (.int (0))) tNil)) (tCall (sp_item_places K t) [] E0 (tCons (tVar 0) (tCons (tVar 6) (tCons (tOp (rIxL K) (tVar 2) (tC (.int 3))) (tCons (tOp (rIxL K) (tVar 2) (tC (.int 4))) (tCons (tOp (rIxL K) (tVar 2) (tC (.int 5))) tNil))))))))
    tNext)
  (tRet (tOp rCat (tLst (tCons (tC (.int (0))) tNil)) (tCall (sp_outer_box K t) [] E0 (tCons (tVar 6) (tCons (tOp (rIxL K) (tVar 2) (tC (.int 3))) (tCons (tOp (rIxL K) (tVar 2) (tC (.int 4))) tNil)))))))))
     { nx := fun _ H' => Q .non H', rt := Q } [some (.ref l), some (.int p), some (.ref d), some (.ref e), some (.ref mp), some (.ref es), some (.ref bl)] H2) :
    rd_awm_rest K t { nx := fun _ H' => Q .non H', rt := Q } [some (.ref l), some (.int p), some (.ref d), some (.ref e), some (.ref mp), none, none] H := by
  unfold rd_awm_rest
  refine skip_if h7 rfl (skip_if h8 rfl ?_)
  refine ⟨_, rfl, _, rfl, l, mp, r, m, rfl, hrow, hm, g, gm, fun H1 es s1 hes hes1 => ?_⟩
  by_cases h5 : p = 5
  · subst h5
    refine hit_if rfl ?_
    have k' := k5 rfl
    have fw := ends_few g gm
    refine ⟨one_le, fun a ha => ⟨_, rfl, a, es, _, _, rfl, rfl, upd_same, (same_new ha) _ _ hes1, by unfold Vamati.nats; rw [nv_len, List.length_map, sizeLine_eq, List.length_singleton]; omega, fun p hp => ?_⟩⟩
    have s2 := s1.trans (same_new (o := .lst [V.int 0]) ha)
    exact k' _ p (s2.trans (same_new hp)) (s2.free hp) (by rw [upd_same]; rfl)
  · refine skip_if h5 rfl ?_
    refine ⟨_, rfl, _, rfl, _, rfl, l, es, mp, r, m, _, rfl, hrow.same s1, hes1, hm.same s1, g, gm, best_breaks g gm, fun H2 bl s2 hbl hL => ?_⟩
    exact k h5 H2 es bl (s1.trans s2) hL
theorem rdok_answer_with_measure {K : PySem.W.Frag} {t : Adr} (T : Tx K t) {vs : List V} {H : Hp} {Q : VK} {E : XK} (h : sp_answer_with_measure K t vs H Q E) : rd_answer_with_measure K t { nx := fun _ H' => Q .non H', rt := Q } (L2.start ["boxes", "call", "wholes", "numbers", "measure", "ends", "best_lines"] vs) H := by
  obtain ⟨l, d, e, r, p, ws, ns, cl, rfl, hrow, g, hd, he, is_, h5, h11, k⟩ := h
  have few := g.few
  have most3 : ∀ p : Int, p ≠ 10 → p ≠ 11 → SqT K H (mostAt t p) (nv mostM) := fun p h1 h2 => by unfold mostAt; rw [if_neg h1, if_neg h2]; exact T.mmea H
  cases is_ with
  | add => exact absurd h5 (by decide)
  | put => exact absurd h5 (by decide)
  | change => exact absurd h5 (by decide)
  | take => exact absurd h5 (by decide)
  | row => exact absurd h5 (by decide)
  | natural => exact absurd h11 (by decide)
  | narrowest => exact absurd h11 (by decide)
  | best a b c =>
    have q := @in3 a b c fun m => 0 :: Vamati.nats (Vamati.bestOf r m).ends
    refine awm_head T hd (most3 5 (by decide) (by decide)) rfl (fun h0 => ?_) fun h1 H2 mp s2 hM => ?_
    · rw [← q.2 h0]; exact k
    · obtain ⟨gm, ef⟩ := q.1 h1
      have k' : Tells H (0 :: Vamati.nats (Vamati.bestOf r ⟨a, b, c⟩).ends) Q := by rw [← ef]; exact k
      exact awm_lines (hrow.same s2) hM g gm (by decide) (by decide) (fun _ => k'.after s2) fun z => absurd rfl z
  | worth a b c =>
    have q := @in3 a b c fun m => Vamati.worthAnswer (Vamati.bestOf r m).worth
    refine awm_head T hd (most3 6 (by decide) (by decide)) rfl (fun h0 => ?_) fun h1 H2 mp s2 hM => ?_
    · rw [← q.2 h0]; exact k
    · obtain ⟨gm, ef⟩ := q.1 h1
      have k' : Tells H (Vamati.worthAnswer (Vamati.bestOf r ⟨a, b, c⟩).worth) Q := by rw [← ef]; exact k
      refine awm_lines (hrow.same s2) hM g gm (by decide) (by decide) (fun z => absurd z (by decide)) fun _ H3 es bl s3 hL => ?_
      refine hit_if rfl ?_
      have hb := BL.B_breaks g gm (m := ⟨a, b, c⟩) r.length 0 (by omega)
      obtain ⟨w1, w2, w3⟩ := BL.worth_lines r ⟨a, b, c⟩ (Vamati.bestOf r ⟨a, b, c⟩).ends 0
      have ew : (Vamati.bestOf r ⟨a, b, c⟩).worth = Vamati.worthOf r ⟨a, b, c⟩ 0 (Vamati.bestOf r ⟨a, b, c⟩).ends := hb.1
      unfold Vamati.worthAnswer at k'
      rw [ew, w1, w2, w3] at k'
      refine done_plus (by show 3 ≤ _; omega) (k'.after (s2.trans s3)) fun H4 Q' s4 kq => ?_
      exact ⟨_, rfl, bl, r, _, _, rfl, hL.same s4, LsOk.of g (best_breaks g gm), kq⟩
  | judge a b c =>
    have q := @in3 a b c fun m => Vamati.judgeAnswer r m ns
    refine awm_head T hd (most3 7 (by decide) (by decide)) rfl (fun h0 => ?_) fun h1 H2 mp s2 hM => ?_
    · rw [← q.2 h0]; exact k
    · obtain ⟨gm, ef⟩ := q.1 h1
      have k' : Tells H (Vamati.judgeAnswer r ⟨a, b, c⟩ ns) Q := by rw [← ef]; exact k
      refine hit_if rfl ?_
      exact ⟨_, rfl, _, rfl, _, rfl, l, mp, e, r, _, ns, rfl, hrow.same s2, hM, g, gm, s2 _ _ he, k'.after s2⟩
  | greedy a b c =>
    have q := @in3 a b c fun m => 0 :: Vamati.nats (Vamati.greedyFrom r m r.length 0)
    refine awm_head T hd (most3 8 (by decide) (by decide)) rfl (fun h0 => ?_) fun h1 H2 mp s2 hM => ?_
    · rw [← q.2 h0]; exact k
    · obtain ⟨gm, ef⟩ := q.1 h1
      have k' : Tells H (0 :: Vamati.nats (Vamati.greedyFrom r ⟨a, b, c⟩ r.length 0)) Q := by rw [← ef]; exact k
      refine skip_if (by decide) rfl (hit_if rfl ?_)
      have gl := BL.greedy_len r ⟨a, b, c⟩ r.length 0
      refine done_plus (by unfold Vamati.nats; rw [List.length_map]; omega) (k'.after s2) fun H4 Q' s4 kq => ?_
      exact ⟨_, rfl, _, rfl, l, mp, r, _, rfl, hrow.same (s2.trans s4), hM.same s4, g, kq⟩
  | lines a b c =>
    have q := @in3 a b c (Vamati.linesAnswer r)
    refine awm_head T hd (most3 9 (by decide) (by decide)) rfl (fun h0 => ?_) fun h1 H2 mp s2 hM => ?_
    · rw [← q.2 h0]; exact k
    · obtain ⟨gm, ef⟩ := q.1 h1
      have k' : Tells H (Vamati.linesAnswer r ⟨a, b, c⟩) Q := by rw [← ef]; exact k
      refine awm_lines (hrow.same s2) hM g gm (by decide) (by decide) (fun z => absurd z (by decide)) fun _ H3 es bl s3 hL => ?_
      refine skip_if (by decide) rfl (hit_if rfl ?_)
      have ok := LsOk.of g (best_breaks g gm)
      have of_ := ok.few
      have k2 : Tells H (0 :: (Vamati.linesOf 0 (Vamati.bestOf r ⟨a, b, c⟩).ends).flatMap (sixOf r ⟨a, b, c⟩)) Q := k'
      refine done_plus (by rw [BL.flat_const (k := 6) (fun _ => rfl)]; omega) (k2.after (s2.trans s3)) fun H4 Q' s4 kq => ?_
      exact ⟨_, rfl, bl, r, _, _, rfl, hL.same s4, ok, kq⟩
  | places a b c ev ld gp =>
    have q := @in6 a b c ev ld gp fun m => 0 :: (Vamati.placesOf r m (decide (ev = 1)) ld gp).flatMap fun p => [p.1, p.2]
    refine awm_head T hd (T.mpla H) rfl (fun h0 => ?_) fun h1 H2 mp s2 hM => ?_
    · rw [← q.2 h0]; exact k
    · obtain ⟨gm, ef⟩ := q.1 h1
      have k' : Tells H (0 :: (Vamati.placesOf r ⟨a, b, c⟩ (decide (ev = 1)) ld gp).flatMap fun p => [p.1, p.2]) Q := by rw [← ef]; exact k
      refine awm_lines (hrow.same s2) hM g gm (by decide) (by decide) (fun z => absurd z (by decide)) fun _ H3 es bl s3 hL => ?_
      refine skip_if (by decide) rfl (skip_if (by decide) rfl (hit_if rfl ?_))
      have pl := BL.places_len g gm (decide (ev = 1)) ld gp
      have s23 := s2.trans s3
      refine done_plus (by rw [BL.flat_const (k := 2) (fun _ => rfl)]; omega) (k'.after s23) fun H4 Q' s4 kq => ?_
      have hd4 := (s23.trans s4) _ _ hd
      exact ⟨_, rfl, _, rfl, _, rfl, d, _, 3, .int ev, rfl, rfl, SqL.of hd4, atI_nat (j := 3) rfl, _, rfl, d, _, 4, .int ld, rfl, rfl, SqL.of hd4, atI_nat (j := 4) rfl, _, rfl, d, _, 5, .int gp, rfl, rfl, SqL.of hd4, atI_nat (j := 5) rfl,
        l, bl, r, _, _, ev, ld, gp, rfl, hrow.same (s23.trans s4), hL.same s4, LsOk.of g (best_breaks g gm), g, gm, kq⟩
  | box a b c ld gp =>
    have q := @in5 a b c ld gp fun m => Vamati.boxAnswer r m ld gp
    refine awm_head T hd (T.mbox H) rfl (fun h0 => ?_) fun h1 H2 mp s2 hM => ?_
    · rw [← q.2 h0]; exact k
    · obtain ⟨gm, ef⟩ := q.1 h1
      have k' : Tells H (Vamati.boxAnswer r ⟨a, b, c⟩ ld gp) Q := by rw [← ef]; exact k
      refine awm_lines (hrow.same s2) hM g gm (by decide) (by decide) (fun z => absurd z (by decide)) fun _ H3 es bl s3 hL => ?_
      refine skip_if (by decide) rfl (skip_if (by decide) rfl (skip_if (by decide) rfl ?_))
      have s23 := s2.trans s3
      have k2 : Tells H (0 :: (Vamati.boxAnswer r ⟨a, b, c⟩ ld gp).tail) Q := k'
      refine done_plus (by show 3 ≤ _; omega) (k2.after s23) fun H4 Q' s4 kq => ?_
      have hd4 := (s23.trans s4) _ _ hd
      exact ⟨_, rfl, _, rfl, d, _, 3, .int ld, rfl, rfl, SqL.of hd4, atI_nat (j := 3) rfl, _, rfl, d, _, 4, .int gp, rfl, rfl, SqL.of hd4, atI_nat (j := 4) rfl, bl, r, _, ld, gp, rfl, hL.same s4, g, gm, kq⟩
/-! ### one call -/
theorem Does.tells {K : PySem.W.Frag} {H : Hp} {l : Addr} {r : Row} {ans : List Int} {Q : VK} (hrow : RowAt K H l r) (k : Does K H l (⟨r⟩, ans) Q) : Tells H ans Q := fun H' q s hq h => k H' q (Same.but s) hq h (hrow.same s)
def rd_answer (K : PySem.W.Frag) (t : Adr) : TS :=
  (tSeq (tIfS (tTest (tOp rEq (tVar 1) (tC (.int (0)))))
    (tRet (tCall (sp_add K t) [] E0 (tCons (tVar 0) (tCons (tVar 3) tNil))))
    tNext)
  (tSeq (tIfS (tTest (tOp rEq (tVar 1) (tC (.int (1)))))
    (tRet (tCall (sp_put K t) [] E0 (tCons (tVar 0) (tCons (tOp (rIxL K) (tVar 2) (tC (.int 0))) (tCons (tVar 3) tNil)))))
    tNext)
  (tSeq (tIfS (tTest (tOp rEq (tVar 1) (tC (.int (2)))))
    (tRet (tCall (sp_change K t) [] E0 (tCons (tVar 0) (tCons (tOp (rIxL K) (tVar 2) (tC (.int 0))) (tCons (tVar 3) tNil)))))
    tNext)
  (tSeq (tIfS (tTest (tOp rEq (tVar 1) (tC (.int (3)))))
    (tRet (tCall (sp_take K t) [] E0 (tCons (tVar 0) (tCons (tOp (rIxL K) (tVar 2) (tC (.int 0))) tNil))))
    tNext)
  (tSeq (tIfS (tTest (tOp rEq (tVar 1) (tC (.int (4)))))
    (tRet (tCall (sp_row K t) [] E0 (tCons (tVar 0) tNil)))
    tNext)
  (tSeq (tIfS (tTest (tOp rEq (tVar 1) (tC (.int (12)))))
    (tRet (tLst (tCons (tC (.int (0))) (tCons (tCall (sp_natural_width K t) [] E0 (tCons (tVar 0) tNil)) tNil))))
    tNext)
  (tSeq (tIfS (tTest (tOp rEq (tVar 1) (tC (.int (13)))))
    (tRet (tLst (tCons (tC (.int (0))) (tCons (tCall (sp_narrowest_measure K t) [] E0 (tCons (tVar 0) tNil)) tNil))))
    tNext)
  (tRet (tCall (sp_answer_with_measure K t) [] E0 (tCons (tVar 0) (tCons (tVar 1) (tCons (tVar 2) (tCons (tVar 3) tNil)))))))))))))
theorem rdok_answer {K : PySem.W.Frag} {t : Adr} (T : Tx K t) {vs : List V} {H : Hp} {Q : VK} {E : XK} (h : sp_answer K t vs H Q E) : rd_answer K t { nx := fun _ H' => Q .non H', rt := Q } (L2.start ["boxes", "call", "wholes", "numbers"] vs) H := by
  obtain ⟨l, d, e, r, p, ws, ns, cl, rfl, hrow, g, hd, he, dl, el, hn, is_, k⟩ := h
  have few := g.few
  unfold rd_answer
  have ask : 5 ≤ p → p ≤ 11 → BL.CallIs p ws ns cl → Tells H (Vamati.answerOf r cl) Q → tRet (tCall (sp_answer_with_measure K t) [] E0 (tCons (tVar 0) (tCons (tVar 1) (tCons (tVar 2) (tCons (tVar 3) tNil))))) { nx := fun _ H' => Q .non H', rt := Q } [some (.ref l), some (.int p), some (.ref d), some (.ref e)] H := fun h5 h11 is_ kk =>
    ⟨_, rfl, _, rfl, _, rfl, _, rfl, l, d, e, r, p, ws, ns, cl, rfl, hrow, g, hd, he, is_, h5, h11, kk⟩
  have ix0 : ∀ {a : Int} {w : List Int} {Q' : VK}, ws = a :: w → Q' (.int a) H → tOp (rIxL K) (tVar 2) (tC (.int 0)) [some (.ref l), some (.int p), some (.ref d), some (.ref e)] H Q' := fun {a w Q'} ew q => by
    subst ew
    exact ⟨_, rfl, d, _, 0, .int a, rfl, rfl, SqL.of hd, atI_nat (j := 0) rfl, q⟩
  cases is_ with
  | add => exact hit_if rfl ⟨_, rfl, _, rfl, l, e, r, ns, rfl, hrow, SqL.of he, el, few, hn, k⟩
  | put i =>
    refine skip_if (by decide) rfl (hit_if rfl ⟨_, rfl, ?_⟩)
    exact ix0 rfl ⟨_, rfl, l, e, i, r, ns, rfl, hrow, SqL.of he, el, few, hn, k⟩
  | change i =>
    refine skip_if (by decide) rfl (skip_if (by decide) rfl (hit_if rfl ⟨_, rfl, ?_⟩))
    exact ix0 rfl ⟨_, rfl, l, e, i, r, ns, rfl, hrow, SqL.of he, el, few, hn, k⟩
  | take i =>
    refine skip_if (by decide) rfl (skip_if (by decide) rfl (skip_if (by decide) rfl (hit_if rfl ⟨_, rfl, ?_⟩)))
    exact ix0 rfl ⟨l, i, r, rfl, hrow, few, k⟩
  | row =>
    refine skip_if (by decide) rfl (skip_if (by decide) rfl (skip_if (by decide) rfl (skip_if (by decide) rfl (hit_if rfl ⟨_, rfl, ?_⟩))))
    exact ⟨l, r, rfl, hrow, few, Does.tells hrow k⟩
  | natural =>
    refine skip_if (by decide) rfl (skip_if (by decide) rfl (skip_if (by decide) rfl (skip_if (by decide) rfl (skip_if (by decide) rfl (hit_if rfl ⟨_, rfl, l, r, rfl, hrow, g, fun H1 s1 => ?_⟩)))))
    exact ⟨by show 2 ≤ sizeLine; rw [sizeLine_eq]; omega, fun q hq => Does.tells hrow k _ q (s1.trans (same_new hq)) (s1.free hq) upd_same⟩
  | narrowest =>
    refine skip_if (by decide) rfl (skip_if (by decide) rfl (skip_if (by decide) rfl (skip_if (by decide) rfl (skip_if (by decide) rfl (skip_if (by decide) rfl (hit_if rfl ⟨_, rfl, l, r, rfl, hrow, g, fun H1 s1 => ?_⟩))))))
    exact ⟨by show 2 ≤ sizeLine; rw [sizeLine_eq]; omega, fun q hq => Does.tells hrow k _ q (s1.trans (same_new hq)) (s1.free hq) upd_same⟩
  | best a b c => exact skip_if (by decide) rfl (skip_if (by decide) rfl (skip_if (by decide) rfl (skip_if (by decide) rfl (skip_if (by decide) rfl (skip_if (by decide) rfl (skip_if (by decide) rfl (ask (by decide) (by decide) (.best a b c) (Does.tells hrow k))))))))
  | worth a b c => exact skip_if (by decide) rfl (skip_if (by decide) rfl (skip_if (by decide) rfl (skip_if (by decide) rfl (skip_if (by decide) rfl (skip_if (by decide) rfl (skip_if (by decide) rfl (ask (by decide) (by decide) (.worth a b c) (Does.tells hrow k))))))))
  | judge a b c => exact skip_if (by decide) rfl (skip_if (by decide) rfl (skip_if (by decide) rfl (skip_if (by decide) rfl (skip_if (by decide) rfl (skip_if (by decide) rfl (skip_if (by decide) rfl (ask (by decide) (by decide) (.judge a b c ns) (Does.tells hrow k))))))))
  | greedy a b c => exact skip_if (by decide) rfl (skip_if (by decide) rfl (skip_if (by decide) rfl (skip_if (by decide) rfl (skip_if (by decide) rfl (skip_if (by decide) rfl (skip_if (by decide) rfl (ask (by decide) (by decide) (.greedy a b c) (Does.tells hrow k))))))))
  | lines a b c => exact skip_if (by decide) rfl (skip_if (by decide) rfl (skip_if (by decide) rfl (skip_if (by decide) rfl (skip_if (by decide) rfl (skip_if (by decide) rfl (skip_if (by decide) rfl (ask (by decide) (by decide) (.lines a b c) (Does.tells hrow k))))))))
  | places a b c ev ld gp => exact skip_if (by decide) rfl (skip_if (by decide) rfl (skip_if (by decide) rfl (skip_if (by decide) rfl (skip_if (by decide) rfl (skip_if (by decide) rfl (skip_if (by decide) rfl (ask (by decide) (by decide) (.places a b c ev ld gp) (Does.tells hrow k))))))))
  | box a b c ld gp => exact skip_if (by decide) rfl (skip_if (by decide) rfl (skip_if (by decide) rfl (skip_if (by decide) rfl (skip_if (by decide) rfl (skip_if (by decide) rfl (skip_if (by decide) rfl (ask (by decide) (by decide) (.box a b c ld gp) (Does.tells hrow k))))))))
/-! ### the calls, one behind another -/
def rd_answers (K : PySem.W.Frag) (t : Adr) : TS :=
  (tSeq (tAsg (tLst tNil) (gName 1))
  (tSeq (tAsg (tLst tNil) (gName 2))
  (tSeq (tAsg (tC (.int 0)) (gName 3))
  (tSeq (tWhile (tTest (tOp (rI0 fun i j => .bl (decide (i < j))) (tVar 3) (tCB (rLen K) (tCons (tVar 0) tNil))))
    (tSeq (tAsg (tOp (rIxL K) (tVar 0) (tVar 3)) (gName 4))
    (tSeq (tAsg (tOp (rI0 fun i j => .int (i + j)) (tOp (rI0 fun i j => .int (i + j)) (tVar 3) (tC (.int 1))) (tOp (rIxT K) (tC (.ref t.WHOLE_COUNTS)) (tVar 4))) (gName 5))
    (tSeq (tAsg (tSl (rSlL K) (tVar 0) (tPart (tOp (rI0 fun i j => .int (i + j)) (tVar 3) (tC (.int 1)))) (tPart (tVar 5))) (gName 6))
    (tSeq (tAsg (tLst tNil) (gName 7))
    (tSeq (tAsg (tVar 5) (gName 3))
    (tSeq (tIfS (fun σ H Q => (tOp (rIxT K) (tC (.ref t.HAS_LIST)) (tVar 4)) σ H fun x H' => ∃ k, TruV K x H' k ∧ Q k H')
      (tSeq (tAsg (tOp (rI0 fun i j => .int (i + j)) (tOp (rI0 fun i j => .int (i + j)) (tVar 5) (tC (.int 1))) (tOp (rIxL K) (tVar 0) (tVar 5))) (gName 3))
      (tAsg (tSl (rSlL K) (tVar 0) (tPart (tOp (rI0 fun i j => .int (i + j)) (tVar 5) (tC (.int 1)))) (tPart (tVar 3))) (gName 7)))
      tNext)
    (tSeq (tAsg (tCall (sp_answer K t) [] E0 (tCons (tVar 1) (tCons (tVar 4) (tCons (tVar 6) (tCons (tVar 7) tNil))))) (gName 8))
    (tSeq (tDrop (tBM K "list" rAppend (tVar 2) (tCons (tCB (rLen K) (tCons (tVar 8) tNil)) tNil)))
    (tDrop (tBM K "list" rExtend (tVar 2) (tCons (tVar 8) tNil))))))))))))
  (tRet (tVar 2))))))
theorem cut_nat (ns : List Int) {x y : Nat} (hx : x ≤ y) (hy : y ≤ ns.length) : cutV (nv ns) (some (x : Int)) (some (y : Int)) = nv ((ns.drop x).take (y - x)) := by
  unfold cutV
  rw [nv_len]
  have e1 : HT.sIx ns.length 0 (some (x : Int)) = x := by unfold HT.sIx; simp only; split <;> omega
  have e2 : HT.sIx ns.length ns.length (some (y : Int)) = y := by unfold HT.sIx; simp only; split <;> omega
  rw [e1, e2]
  unfold nv
  rw [← List.map_drop, ← List.map_take]
structure AS (K : PySem.W.Frag) (H H2 : Hp) (a l tl : Addr) (ns : List Int) (at_ : Nat) : Prop where
  le : at_ ≤ ns.length
  same : Same H H2
  nl : H l = none
  ntl : H tl = none
  ltl : l ≠ tl
  ex : ∃ (r : Row) (told : List Int) (cs : List (List (List Int))) (f dn : Nat), RowAt K H2 l r ∧ BL.Good r ∧ H2 tl = some (.lst (nv told)) ∧ told.length ≤ 2102 * dn ∧ dn + cs.length ≤ 400 ∧ PyFlat.calls PyVamati.shape f (ns.drop at_) = some cs ∧
    (∀ c ∈ cs, (VamatiNeutral.callOf (PyVamati.whole c)).isSome = true) ∧ told ++ PyFlat.told (PyFlat.played VamatiNeutral.step ⟨r⟩ (cs.map PyVamati.whole)) = PyVamati.answers ns
def AW (K : PySem.W.Frag) (H : Hp) (a l tl : Addr) (ns : List Int) (m : Nat) (σ : St) (H2 : Hp) : Prop :=
  ∃ (at_ : Nat) (v4 v5 v6 v7 v8 : Option V), m = ns.length - at_ ∧ AS K H H2 a l tl ns at_ ∧ σ = [some (.ref a), some (.ref l), some (.ref tl), some (.int at_), v4, v5, v6, v7, v8]
theorem asked_calls {ns : List Int} (h : PyVamati.answers_asked ns = true) : ∃ cs, PyFlat.calls PyVamati.shape ns.length ns = some cs ∧ cs.length ≤ 400 ∧ (∀ c ∈ cs, (VamatiNeutral.callOf (PyVamati.whole c)).isSome = true) ∧ PyVamati.answers ns = PyFlat.told (PyFlat.played VamatiNeutral.step ⟨[]⟩ (cs.map PyVamati.whole)) := by
  unfold PyVamati.answers_asked at h
  unfold PyVamati.answers
  cases e : PyVamati.calls ns with
  | none => rw [e] at h; cases h
  | some cs =>
    rw [e] at h
    simp only [Bool.and_eq_true] at h
    have e2 := e
    unfold PyVamati.calls at e2
    cases e3 : PyFlat.calls PyVamati.shape ns.length ns with
    | none => rw [e3] at e2; cases e2
    | some ds =>
      rw [e3] at e2
      have e4 : ds.map PyVamati.whole = cs := Option.some.inj e2
      subst e4
      obtain ⟨h1, h2⟩ := h
      unfold VamatiNeutral.asked at h2
      simp only [Bool.and_eq_true, List.all_eq_true] at h2
      refine ⟨ds, rfl, ?_, fun c hc => h2.1.2 _ (List.mem_map_of_mem hc), rfl⟩
      have := of_decide_eq_true h1
      rwa [List.length_map] at this
def rd_an_rest (K : PySem.W.Frag) (t : Adr) : TS :=
  (tSeq (tAsg (tCall (sp_answer K t) [] E0 (tCons (tVar 1) (tCons (tVar 4) (tCons (tVar 6) (tCons (tVar 7) tNil))))) (gName 8))
  (tSeq (tDrop (tBM K "list" rAppend (tVar 2) (tCons (tCB (rLen K) (tCons (tVar 8) tNil)) tNil)))
  (tDrop (tBM K "list" rExtend (tVar 2) (tCons (tVar 8) tNil)))))
theorem an_rest {K : PySem.W.Frag} {t : Adr} {D : Ends} {H H3 : Hp} {a l tl d e : Addr} {ns ws nums told : List Int} {r : Row} {p : Int} {cl : Vamati.Call} {c : List (List Int)} {cs : List (List (List Int))} {f dn M at_ : Nat} {v5 v8 : Option V}
    (hs : Same H H3) (nl : H l = none) (ntl : H tl = none) (ltl : l ≠ tl) (hrow : RowAt K H3 l r) (g : BL.Good r) (htl : H3 tl = some (.lst (nv told))) (htlen : told.length ≤ 2102 * dn) (hcnt : dn + (c :: cs).length ≤ 400)
    (hd : H3 d = some (.lst (nv ws))) (he : H3 e = some (.lst (nv nums))) (dl : d ≠ l) (el : e ≠ l) (hnum : nums.length ≤ 17000) (hcl : VamatiNeutral.callOf (PyVamati.whole c) = some cl) (is_ : BL.CallIs p ws nums cl)
    (hat : at_ ≤ ns.length) (hcs : PyFlat.calls PyVamati.shape f (ns.drop at_) = some cs) (hcall : ∀ x ∈ cs, (VamatiNeutral.callOf (PyVamati.whole x)).isSome = true)
    (heq : told ++ PyFlat.told (PyFlat.played VamatiNeutral.step ⟨r⟩ ((c :: cs).map PyVamati.whole)) = PyVamati.answers ns) (hM : ns.length - at_ < M) (hD : ∀ σ H', (∃ m', m' < M ∧ AW K H a l tl ns m' σ H') → D.nx σ H') :
    rd_an_rest K t D [some (.ref a), some (.ref l), some (.ref tl), some (.int at_), some (.int p), v5, some (.ref d), some (.ref e), v8] H3 := by
  have hz : (sizeLine : Nat) = 16777216 := sizeLine_eq
  obtain ⟨xs, hx, hr⟩ := id hrow
  rw [List.length_cons] at hcnt
  unfold rd_an_rest
  walk_at "rd"
  refine ⟨l, d, e, r, p, ws, nums, cl, rfl, hrow, g, hd, he, dl, el, hnum, is_, fun H4 q kb hq hq4 hrow4 => ?_⟩
  obtain ⟨ys, hy, hr4⟩ := hrow4
  have alen := BL.ans_len g cl
  have htl4 := kb _ _ htl ltl.symm
  have qtl : q ≠ tl := (ne_of_none htl hq).symm
  have k2 : But tl H4 (upd H4 tl (.lst (nv told ++ [V.int ((Vamati.step ⟨r⟩ cl).2.length : Int)]))) := but_set
  refine ⟨.inl ⟨rfl, _, SqL.of htl4⟩, q, rfl, _, .inl (SqL.of hq4), _, htl4, by rw [nv_len, hz]; omega, ?_⟩
  rw [nv_len]
  refine ⟨.inl ⟨rfl, _, SqL.of upd_same⟩, q, rfl, _, upd_same, _, k2 _ _ hq4 qtl, by rw [List.length_append, nv_len, nv_len, List.length_singleton, hz]; omega, ?_⟩
  have k3 : But tl H4 (upd (upd H4 tl (.lst (nv told ++ [V.int ((Vamati.step ⟨r⟩ cl).2.length : Int)]))) tl (.lst ((nv told ++ [V.int ((Vamati.step ⟨r⟩ cl).2.length : Int)]) ++ nv (Vamati.step ⟨r⟩ cl).2))) := But.trans k2 but_set
  have eList : (nv told ++ [V.int ((Vamati.step ⟨r⟩ cl).2.length : Int)]) ++ nv (Vamati.step ⟨r⟩ cl).2 = nv (told ++ (((Vamati.step ⟨r⟩ cl).2.length : Int) :: (Vamati.step ⟨r⟩ cl).2)) := by
    unfold nv
    rw [List.map_append, List.append_assoc]; rfl
  rw [eList] at k3 ⊢
  refine hD _ _ ⟨_, hM, at_, _, _, _, _, _, rfl, ⟨hat, ?_, nl, ntl, ltl, (Vamati.step ⟨r⟩ cl).1.row, _, cs, f, dn + 1, ⟨ys, k3 _ _ hy ltl, hr4.but k3 htl4⟩, BL.step_good g cl, upd_same, ?_, by omega, hcs, hcall, ?_⟩, rfl⟩
  · exact fun b o eb => k3 _ _ (kb _ _ (hs _ _ eb) (ne_of_none eb nl)) (ne_of_none eb ntl)
  · rw [List.length_append, List.length_cons]; omega
  · rw [← heq]
    have est : VamatiNeutral.step ⟨r⟩ (PyVamati.whole c) = ((Vamati.step ⟨r⟩ cl).1, (Vamati.step ⟨r⟩ cl).2) := by
      unfold VamatiNeutral.step
      rw [hcl]; rfl
    rw [List.map_cons]
    show _ = told ++ PyFlat.told ((VamatiNeutral.step ⟨r⟩ (PyVamati.whole c)).2 :: PyFlat.played VamatiNeutral.step (VamatiNeutral.step ⟨r⟩ (PyVamati.whole c)).1 (cs.map PyVamati.whole))
    rw [est]
    show (told ++ (((Vamati.step ⟨r⟩ cl).2.length : Int) :: (Vamati.step ⟨r⟩ cl).2)) ++ PyFlat.told _ = told ++ ((((Vamati.step ⟨r⟩ cl).2.length : Int) :: (Vamati.step ⟨r⟩ cl).2) ++ PyFlat.told _)
    rw [List.append_assoc]
theorem rdok_answers {K : PySem.W.Frag} {t : Adr} (T : Tx K t) {vs : List V} {H : Hp} {Q : VK} {E : XK} (h : sp_answers K vs H Q E) :
    rd_answers K t { nx := fun _ H' => Q .non H', rt := Q } (L2.start ["calls", "boxes", "told", "at", "call", "list_at", "wholes", "numbers", "found"] vs) H := by
  obtain ⟨a, ns, rfl, ha, hn, hask, k⟩ := h
  obtain ⟨cs0, hcs0, hc400, hcall0, hans⟩ := asked_calls hask
  unfold rd_answers
  refine ⟨Nat.zero_le _, fun l hl => ⟨Nat.zero_le _, fun tl htl => ?_⟩⟩
  have u1 := same_new (o := .lst []) hl
  have u2 := same_new (o := .lst []) htl
  have lne : l ≠ tl := ne_of_none (upd_same (a := l)) htl
  refine while_w (AW K H a l tl ns) _ ⟨0, none, none, none, none, none, rfl, ⟨Nat.zero_le _, u1.trans u2, hl, u1.free htl, lne, [], [], cs0, ns.length, 0, ⟨[], u2 _ _ upd_same, rfl, fun i x a h => by simp at h⟩, ⟨by simp, fun a h => by cases h⟩, upd_same, by simp, by omega, hcs0, hcall0, by rw [hans]; rfl⟩, rfl⟩ ?_
  rintro m σ H2 ⟨at_, v4, v5, v6, v7, v8, rfl, S, rfl⟩
  obtain ⟨r, told, cs, f, dn, hrow, g, htl2, htlen, hcnt, hcs, hcall, heq⟩ := S.ex
  have hle := S.le
  have ha2 := S.same.seq ha
  refine ⟨_, rfl, _, rfl, a, _, rfl, .inl ha2, _, _, rfl, rfl, _, rfl, ?_⟩
  by_cases hlt : at_ < ns.length
  · refine (if_pos (decide_eq_true (by rw [nv_len]; omega))).mpr ⟨fun σ' H' => ∃ m', m' < ns.length - at_ ∧ AW K H a l tl ns m' σ' H', fun _ _ z => z, gen_D fun D hnx _ _ => ?_⟩
    have resting := fun {H3 d e c cs ws nums p cl f M at_ v5 v8} => @an_rest K t D H H3 a l tl d e ns ws nums told r p cl c cs f dn M at_ v5 v8
    obtain ⟨p, rest, hd⟩ : ∃ p rest, ns.drop at_ = p :: rest := ⟨_, _, List.drop_eq_getElem_cons hlt⟩
    have hp : ns[at_]? = some p := by
      have := List.getElem?_drop (xs := ns) (i := at_) (j := 0)
      rw [hd] at this
      simpa using this.symm
    have hrest : rest = ns.drop (at_ + 1) := (List.cons.inj ((List.drop_eq_getElem_cons hlt).symm.trans hd)).2.symm
    rw [hd] at hcs
    obtain ⟨f', c, t', cs', hc1, hc2, rfl⟩ : ∃ f' c t' cs', PyFlat.call PyVamati.shape (p :: rest) = some (c, t') ∧ PyFlat.calls PyVamati.shape f' t' = some cs' ∧ cs = c :: cs' := by
      cases f with
      | zero => cases hcs
      | succ f' =>
        simp only [PyFlat.calls] at hcs
        cases e : PyFlat.call PyVamati.shape (p :: rest) with
        | none => rw [e] at hcs; cases hcs
        | some x =>
          obtain ⟨c, t'⟩ := x
          rw [e] at hcs
          simp only at hcs
          cases e2 : PyFlat.calls PyVamati.shape f' t' with
          | none => rw [e2] at hcs; cases hcs
          | some cs' =>
            rw [e2] at hcs
            exact ⟨f', c, t', cs', rfl, e2, (Option.some.inj hcs).symm⟩
    obtain ⟨cl, hcl⟩ := Option.isSome_iff_exists.mp (hcall c (List.mem_cons_self ..))
    obtain ⟨j, n, b, ws, nums, P⟩ := BL.parse_step hc1 hcl
    have hn1 : at_ + 1 + n ≤ ns.length := by
      have := P.few
      rw [hrest, List.length_drop] at this
      omega
    have hws : cutV (nv ns) (some ((at_ : Int) + 1)) (some ((at_ : Int) + 1 + (n : Int))) = nv ws := by
      have := cut_nat ns (x := at_ + 1) (y := at_ + 1 + n) (by omega) hn1
      rw [show at_ + 1 + n - (at_ + 1) = n by omega, ← hrest, ← P.ws_] at this
      rw [← this]
      congr 2
    have pj := P.pj
    show tSeq _ (tSeq _ (tSeq _ (tSeq _ (tSeq _ (tSeq _ (rd_an_rest K t)))))) _ _ _
    generalize rd_an_rest K t = RR at resting ⊢
    refine ⟨_, rfl, _, rfl, a, _, _, .int p, rfl, rfl, ha2, atI_nat (nv_at hp), ?_⟩
    refine ⟨_, rfl, _, _, rfl, rfl, _, rfl, t.WHOLE_COUNTS, _, p, .int (n : Int), rfl, rfl, T.wcnt _, by rw [pj]; exact atI_nat (nv_at P.cj), _, _, rfl, rfl, ?_⟩
    refine ⟨_, rfl, _, rfl, _, _, rfl, rfl, _, rfl, _, rfl, _, rfl, a, _, rfl, ha2, fun d hd2 => ⟨Nat.zero_le _, fun e he2 => ⟨_, rfl, ?_⟩⟩⟩
    change upd H2 d (.lst (cutV (nv ns) (some ((at_ : Int) + 1)) (some ((at_ : Int) + 1 + (n : Int))))) e = none at he2
    rw [hws] at he2
    have dl : d ≠ l := by
      obtain ⟨xs, hx, _⟩ := hrow
      exact (ne_of_none hx hd2).symm
    have w1 := same_new (o := .lst (nv ws)) hd2
    have w2 := w1.trans (same_new (o := .lst []) he2)
    have el : e ≠ l := by
      obtain ⟨xs, hx, _⟩ := hrow
      exact (ne_of_none (w1 _ _ hx) he2).symm
    have hd3 := (same_new (o := .lst []) he2) _ _ (upd_same (H := H2) (a := d) (o := .lst (nv ws)))
    have he3 := upd_same (H := upd H2 d (.lst (nv ws))) (a := e) (o := .lst [])
    rw [hws]
    generalize upd (upd H2 d (.lst (nv ws))) e (.lst []) = H3 at w2 hd3 he3 ⊢
    have hb : (BL.lists.map V.bl)[j]? = some (.bl b) := by rw [List.getElem?_map, P.lj]; rfl
    refine ⟨_, rfl, t.HAS_LIST, _, p, .bl b, rfl, rfl, T.hlst _, by rw [pj]; exact atI_nat hb, b, rfl, ?_⟩
    have hcall' : ∀ x ∈ cs', (VamatiNeutral.callOf (PyVamati.whole x)).isSome = true := fun x hx => hcall x (List.mem_cons_of_mem _ hx)
    have ec : ((at_ : Int) + 1 + (n : Int)) = ((at_ + 1 + n : Nat) : Int) := by omega
    rcases P.lst with ⟨rfl, hnums, ht⟩ | ⟨rfl, k', q, hq, hkq, hnums, ht⟩
    · refine (if_neg (by decide)).mpr ?_
      have ht2 : t' = ns.drop (at_ + 1 + n) := by rw [ht, hrest, List.drop_drop]
      change RR D [some (.ref a), some (.ref l), some (.ref tl), some (.int ((at_ : Int) + 1 + (n : Int))), some (.int p), some (.int ((at_ : Int) + 1 + (n : Int))), some (.ref d), some (.ref e), v8] H3
      rw [ec]
      exact resting (S.same.trans w2) S.nl S.ntl S.ltl (hrow.same w2) g (w2 _ _ htl2) htlen hcnt hd3 (by rw [hnums]; exact he3) dl el (by rw [hnums]; simp) hcl P.is_ hn1 (by rw [← ht2]; exact hc2) hcall' heq (by omega) hnx
    · refine (if_pos rfl).mpr ?_
      have hdrop : ns.drop (at_ + 1 + n) = (k' : Int) :: q := by rw [← hq, hrest, List.drop_drop]
      have hlt2 : at_ + 1 + n < ns.length := by
        have := congrArg List.length hdrop
        rw [List.length_drop, List.length_cons] at this
        omega
      have hk2 : ns[at_ + 1 + n]? = some (k' : Int) := by
        have := List.getElem?_drop (xs := ns) (i := at_ + 1 + n) (j := 0)
        rw [hdrop] at this
        simpa using this.symm
      have hq2 : q = ns.drop (at_ + 1 + n + 1) := (List.cons.inj ((List.drop_eq_getElem_cons hlt2).symm.trans hdrop)).2.symm
      have hqlen : q.length = ns.length - (at_ + 1 + n + 1) := by rw [hq2, List.length_drop]
      have ec2 : ((at_ : Int) + 1 + (n : Int) + 1 + (k' : Int)) = ((at_ + 1 + n + 1 + k' : Nat) : Int) := by omega
      refine ⟨_, rfl, _, _, rfl, rfl, _, rfl, _, rfl, a, _, _, .int (k' : Int), rfl, rfl, w2.seq ha2, by show atI (nv ns) ((at_ : Int) + 1 + (n : Int)) = _; rw [ec]; exact atI_nat (nv_at hk2), _, _, rfl, rfl, ?_⟩
      refine ⟨_, rfl, _, rfl, _, _, rfl, rfl, _, rfl, _, rfl, _, rfl, a, _, rfl, w2.seq ha2, fun e2 he4 => ?_⟩
      have hcut : cutV (nv ns) (some ((at_ : Int) + 1 + (n : Int) + 1)) (some ((at_ : Int) + 1 + (n : Int) + 1 + (k' : Int))) = nv nums := by
        have := cut_nat ns (x := at_ + 1 + n + 1) (y := at_ + 1 + n + 1 + k') (by omega) (by omega)
        rw [show at_ + 1 + n + 1 + k' - (at_ + 1 + n + 1) = k' by omega, ← hq2, ← hnums] at this
        rw [← this]
        congr 2
      change RR D [some (.ref a), some (.ref l), some (.ref tl), some (.int ((at_ : Int) + 1 + (n : Int) + 1 + (k' : Int))), some (.int p), some (.int ((at_ : Int) + 1 + (n : Int))), some (.ref d), some (.ref e2), v8] (upd H3 e2 (.lst (cutV (nv ns) (some ((at_ : Int) + 1 + (n : Int) + 1)) (some ((at_ : Int) + 1 + (n : Int) + 1 + (k' : Int))))))
      rw [hcut, ec2]
      have w4 := same_new (o := .lst (nv nums)) he4
      have w3 := w2.trans w4
      have el2 : e2 ≠ l := by
        obtain ⟨xs, hx, _⟩ := hrow
        exact (ne_of_none (w2 _ _ hx) he4).symm
      have ht2 : t' = ns.drop (at_ + 1 + n + 1 + k') := by rw [ht, hq2, List.drop_drop]
      exact resting (S.same.trans w3) S.nl S.ntl S.ltl (hrow.same w3) g (w3 _ _ htl2) htlen hcnt (w4 _ _ hd3) upd_same dl el2 (by rw [hnums, List.length_take]; omega) hcl P.is_ (by omega) (by rw [← ht2]; exact hc2) hcall' heq (by omega) hnx
  · refine (if_neg (fun z => hlt (by have := of_decide_eq_true z; rw [nv_len] at this; omega))).mpr ?_
    have e : at_ = ns.length := by omega
    subst e
    rw [List.drop_length] at hcs
    have e2 : cs = [] := by
      cases f <;> exact (Option.some.inj hcs).symm
    subst e2
    rw [show told ++ PyFlat.told (PyFlat.played VamatiNeutral.step ⟨r⟩ (List.map PyVamati.whole [])) = told from List.append_nil _] at heq
    rw [heq] at htl2
    exact ⟨_, rfl, k H2 tl htl2⟩
open PySem.Spec PyProof.Rows
def top (i : Nat) : Stmt := PySem.Challenge.pw_boxlines_s01_answers.main.body.getD i (.Pass ⟨0, 0, 0, 0⟩)
abbrev s_may_end : Stmt := top 9
abbrev s_Measure_init : Stmt := inClass (top 15) 0
abbrev s_Measure_indent_at : Stmt := inClass (top 15) 1
abbrev s_Measure_room_at : Stmt := inClass (top 15) 2
abbrev s_Edges_init : Stmt := inClass (top 16) 0
abbrev s_is_breaking : Stmt := top 17
abbrev s_best_breaking : Stmt := top 18
abbrev s_best_line : Stmt := top 19
abbrev s_follow : Stmt := top 20
abbrev s_greedy_breaking : Stmt := top 21
abbrev s_greedy_line : Stmt := top 22
abbrev s_natural_width : Stmt := top 23
abbrev s_narrowest_measure : Stmt := top 24
abbrev s_Line_init : Stmt := inClass (top 26) 0
abbrev s_set_lines : Stmt := top 27
abbrev s_totals : Stmt := top 28
abbrev s_line_numbers : Stmt := top 29
abbrev s_shares : Stmt := top 30
abbrev s_shifts : Stmt := top 31
abbrev s_item_edges : Stmt := top 32
abbrev s_baselines : Stmt := top 33
abbrev s_item_places : Stmt := top 34
abbrev s_outer_box : Stmt := top 35
abbrev s_cut : Stmt := top 67
abbrev s_fits : Stmt := top 68
abbrev s_numbers_refusal : Stmt := top 69
abbrev s_item_refusal : Stmt := top 70
abbrev s_most_wholes : Stmt := top 71
abbrev s_in_range : Stmt := top 72
abbrev s_add : Stmt := top 73
abbrev s_put : Stmt := top 74
abbrev s_change : Stmt := top 75
abbrev s_take : Stmt := top 76
abbrev s_row : Stmt := top 77
abbrev s_judge : Stmt := top 78
abbrev s_answer_with_measure : Stmt := top 79
abbrev s_answer : Stmt := top 80
abbrev s_answers : Stmt := top 81
structure Txt (K : PySem.W.Frag) (mg : Str → Option Value) (t : Adr) : Prop where
  tx : Tx K t
  len : mg "len" = none
  range : mg "range" = none
  zip : mg "zip" = none
  tuple : mg "tuple" = none
  max : mg "max" = none
  min : mg "min" = none
  sum : mg "sum" = none
  enumerate : mg "enumerate" = none
  WIDTH : GlV mg "WIDTH" (.int (0))
  HEIGHT : GlV mg "HEIGHT" (.int (1))
  DEPTH : GlV mg "DEPTH" (.int (2))
  SPACE : GlV mg "SPACE" (.int (3))
  STRETCH : GlV mg "STRETCH" (.int (4))
  SHRINK : GlV mg "SHRINK" (.int (5))
  COST : GlV mg "COST" (.int (6))
  NO_BREAK : GlV mg "NO_BREAK" (.int (-1))
  LINE_UNIT : GlV mg "LINE_UNIT" (.int (1))
  COST_UNIT : GlV mg "COST_UNIT" (.int (1000))
  OVERFULL_UNIT : GlV mg "OVERFULL_UNIT" (.int (1000000000000000000000000))
  HEAVIEST : GlV mg "HEAVIEST" (.int (1000000000000000000000000000000000000000000))
  ITEM_SIZE : GlV mg "ITEM_SIZE" (.int (7))
  MOST_ITEMS : GlV mg "MOST_ITEMS" (.int (300))
  LEAST_NUMBERS : GlV mg "LEAST_NUMBERS" (.ref t.LEAST_NUMBERS)
  MOST_NUMBER : GlV mg "MOST_NUMBER" (.int (1000000))
  DONE : GlV mg "DONE" (.int (0))
  WRONG_COUNT : GlV mg "WRONG_COUNT" (.int (-1))
  WRONG_NUMBER : GlV mg "WRONG_NUMBER" (.int (-2))
  TOO_MANY : GlV mg "TOO_MANY" (.int (-3))
  WRONG_MEASURE : GlV mg "WRONG_MEASURE" (.int (-4))
  NO_ITEM : GlV mg "NO_ITEM" (.int (-5))
  NO_BREAKING : GlV mg "NO_BREAKING" (.int (-6))
  ADD : GlV mg "ADD" (.int (0))
  PUT : GlV mg "PUT" (.int (1))
  CHANGE : GlV mg "CHANGE" (.int (2))
  TAKE : GlV mg "TAKE" (.int (3))
  ROW : GlV mg "ROW" (.int (4))
  BEST : GlV mg "BEST" (.int (5))
  WORTH : GlV mg "WORTH" (.int (6))
  JUDGE : GlV mg "JUDGE" (.int (7))
  GREEDY : GlV mg "GREEDY" (.int (8))
  LINES : GlV mg "LINES" (.int (9))
  PLACES : GlV mg "PLACES" (.int (10))
  BOX : GlV mg "BOX" (.int (11))
  NATURAL : GlV mg "NATURAL" (.int (12))
  NARROWEST : GlV mg "NARROWEST" (.int (13))
  WHOLE_COUNTS : GlV mg "WHOLE_COUNTS" (.ref t.WHOLE_COUNTS)
  HAS_LIST : GlV mg "HAS_LIST" (.ref t.HAS_LIST)
  MOST_OF_MEASURE : GlV mg "MOST_OF_MEASURE" (.ref t.MOST_OF_MEASURE)
  MOST_OF_PLACES : GlV mg "MOST_OF_PLACES" (.ref t.MOST_OF_PLACES)
  MOST_OF_BOX : GlV mg "MOST_OF_BOX" (.ref t.MOST_OF_BOX)
theorem sc_may_end : FnScope ["boxes", "end"] ["boxes", "end"] (defScope s_may_end) := ⟨rfl, rfl, rfl, by decide +kernel, rfl, by decide +kernel, by decide +kernel⟩
theorem ok_may_end {P : Program} {w : World} {K : PySem.W.Frag} {mg : Str → Option Value} {base : Heap} {t : Adr} {f : Addr} {fd : FuncData} (F : Fun K "may_end" "may_end" s_may_end f fd) (T : Txt K mg t)  : FnOk P w K mg base CX0 1 f fd ["boxes", "end"] (sp_may_end K t) := by
  refine F.ok sc_may_end (fun vs H Q E h => ?_) (fun cdv A outer s H vs Q E hr h => ⟨rd_may_end K t, ?_, rdok_may_end T.tx h⟩)
  · obtain ⟨_, _, _, rfl, _⟩ := h
    rfl
  · exact (pss_one (ps_ret (pe_or (pe_cmpR op_eq (pv 1) (pe_op op_sub (pe_callB call_len_seq (by rfl) T.len PySem.boot_len (pa_cons (pv 0) pa_nil)) pe_int) (nomark _)) (pe_one (pe_cmpR op_ne (pe_ix ix_tup (pe_ix ix_list (pv 0) (pv 1) (fun _ _ => rfl)) (pe_gl (by rfl) T.COST) (fun _ _ => rfl)) (pe_gl (by rfl) T.NO_BREAK) (nomark _))))))
theorem sc_Measure_init : FnScope ["self", "width", "first", "indent"] ["self", "width", "first", "indent"] (defScope s_Measure_init) := ⟨rfl, rfl, rfl, by decide +kernel, rfl, by decide +kernel, by decide +kernel⟩
theorem ok_Measure_init {P : Program} {w : World} {K : PySem.W.Frag} {mg : Str → Option Value} {base : Heap} {t : Adr} {f : Addr} {fd : FuncData} (F : Fun K "__init__" "Measure.__init__" s_Measure_init f fd) (T : Txt K mg t)  : FnOk P w K mg base CX0 1 f fd ["self", "width", "first", "indent"] (sp_Measure K t) := by
  refine F.ok sc_Measure_init (fun vs H Q E h => ?_) (fun cdv A outer s H vs Q E hr h => ⟨rd_Measure_init K t, ?_, rdok_Measure_init T.tx h⟩)
  · obtain ⟨_, _, _, rfl, _⟩ := h
    rfl
  · exact (pss_cons (ps_fld (pv 0) (pv 1) rfl)
    (pss_cons (ps_fld (pv 0) (pv 2) rfl)
    (pss_one (ps_fld (pv 0) (pv 3) rfl))))
theorem sc_Measure_indent_at : FnScope ["self", "begin"] ["self", "begin"] (defScope s_Measure_indent_at) := ⟨rfl, rfl, rfl, by decide +kernel, rfl, by decide +kernel, by decide +kernel⟩
theorem ok_Measure_indent_at {P : Program} {w : World} {K : PySem.W.Frag} {mg : Str → Option Value} {base : Heap} {t : Adr} {f : Addr} {fd : FuncData} (F : Fun K "indent_at" "Measure.indent_at" s_Measure_indent_at f fd) (T : Txt K mg t)  : FnOk P w K mg base CX0 1 f fd ["self", "begin"] (sp_Measure_indent_at K t) := by
  refine F.ok sc_Measure_indent_at (fun vs H Q E h => ?_) (fun cdv A outer s H vs Q E hr h => ⟨rd_Measure_indent_at K t, ?_, rdok_Measure_indent_at T.tx h⟩)
  · obtain ⟨_, _, _, rfl, _⟩ := h
    rfl
  · exact (pss_one (ps_ret (pe_ifExp (pt_cmpR op_eq (pv 1) pe_int (nomark _)) (pe_fld (pv 0) rfl) (pe_fld (pv 0) rfl))))
theorem sc_Measure_room_at : FnScope ["self", "begin"] ["self", "begin"] (defScope s_Measure_room_at) := ⟨rfl, rfl, rfl, by decide +kernel, rfl, by decide +kernel, by decide +kernel⟩
theorem ok_Measure_room_at {P : Program} {w : World} {K : PySem.W.Frag} {mg : Str → Option Value} {base : Heap} {t : Adr} {f : Addr} {fd : FuncData} (F : Fun K "room_at" "Measure.room_at" s_Measure_room_at f fd) (T : Txt K mg t) (M_Measure_indent_at : MethF P w K mg base 1 "indent_at" t.Measure ["self", "begin"] (sp_Measure_indent_at K t)) : FnOk P w K mg base CX0 2 f fd ["self", "begin"] (sp_Measure_room_at K t) := by
  refine F.ok sc_Measure_room_at (fun vs H Q E h => ?_) (fun cdv A outer s H vs Q E hr h => ⟨rd_Measure_room_at K t, ?_, rdok_Measure_room_at T.tx h⟩)
  · obtain ⟨_, _, _, rfl, _⟩ := h
    rfl
  · exact (pss_one (ps_ret (pe_op op_sub (pe_fld (pv 0) rfl) (pe_methF M_Measure_indent_at (pv 0) (hr.mono (by decide)) (pa_cons (pv 1) pa_nil)))))
theorem sc_Edges_init : FnScope ["self", "boxes", "edge", "tight_edge", "box"] ["self", "boxes"] (defScope s_Edges_init) := ⟨rfl, rfl, rfl, by decide +kernel, rfl, by decide +kernel, by decide +kernel⟩
theorem ok_Edges_init {P : Program} {w : World} {K : PySem.W.Frag} {mg : Str → Option Value} {base : Heap} {t : Adr} {f : Addr} {fd : FuncData} (F : Fun K "__init__" "Edges.__init__" s_Edges_init f fd) (T : Txt K mg t)  : FnOk P w K mg base CX0 1 f fd ["self", "boxes"] (sp_Edges K t) := by
  refine F.ok sc_Edges_init (fun vs H Q E h => ?_) (fun cdv A outer s H vs Q E hr h => ⟨rd_Edges_init K t, ?_, rdok_Edges_init T.tx h⟩)
  · obtain ⟨_, _, _, _, rfl, _⟩ := h
    rfl
  · exact (pss_cons (ps_fld (pv 0) (pe_lst pa_nil) rfl)
    (pss_cons (ps_fld (pv 0) (pe_lst pa_nil) rfl)
    (pss_cons (ps_fld (pv 0) (pe_lst pa_nil) rfl)
    (pss_cons (ps_fld (pv 0) (pe_lst pa_nil) rfl)
    (pss_cons (ps_set (i := 2) sc_Edges_init.nd rfl (Or.inl rfl) pe_int)
    (pss_cons (ps_set (i := 3) sc_Edges_init.nd rfl (Or.inl rfl) pe_int)
    (pss_one (ps_for PassesOwn.never rfl (pi_list (pv 1)) (pg_name (i := 4) sc_Edges_init.nd rfl (Or.inl rfl))
      (pss_cons (ps_expr (pe_bm PySem.F.plainAttrs_list PySem.F.slot_list_append PySem.F.type_list_append mt_append (pe_fld (pv 0) rfl) (pa_cons (pv 2) pa_nil)))
      (pss_cons (ps_expr (pe_bm PySem.F.plainAttrs_list PySem.F.slot_list_append PySem.F.type_list_append mt_append (pe_fld (pv 0) rfl) (pa_cons (pv 3) pa_nil)))
      (pss_cons (ps_aug (i := 2) sc_Edges_init.nd rfl (Or.inl rfl) (pe_ix ix_tup (pv 4) (pe_gl (by rfl) T.WIDTH) (fun _ _ => rfl)) iop_add)
      (pss_cons (ps_aug (i := 3) sc_Edges_init.nd rfl (Or.inl rfl) (pe_ix ix_tup (pv 4) (pe_gl (by rfl) T.WIDTH) (fun _ _ => rfl)) iop_add)
      (pss_cons (ps_expr (pe_bm PySem.F.plainAttrs_list PySem.F.slot_list_append PySem.F.type_list_append mt_append (pe_fld (pv 0) rfl) (pa_cons (pv 2) pa_nil)))
      (pss_cons (ps_expr (pe_bm PySem.F.plainAttrs_list PySem.F.slot_list_append PySem.F.type_list_append mt_append (pe_fld (pv 0) rfl) (pa_cons (pv 3) pa_nil)))
      (pss_cons (ps_aug (i := 2) sc_Edges_init.nd rfl (Or.inl rfl) (pe_ix ix_tup (pv 4) (pe_gl (by rfl) T.SPACE) (fun _ _ => rfl)) iop_add)
      (pss_one (ps_aug (i := 3) sc_Edges_init.nd rfl (Or.inl rfl) (pe_op op_sub (pe_ix ix_tup (pv 4) (pe_gl (by rfl) T.SPACE) (fun _ _ => rfl)) (pe_ix ix_tup (pv 4) (pe_gl (by rfl) T.SHRINK) (fun _ _ => rfl))) iop_add)))))))))))))))))
theorem sc_is_breaking : FnScope ["boxes", "ends", "begin", "end"] ["boxes", "ends"] (defScope s_is_breaking) := ⟨rfl, rfl, rfl, by decide +kernel, rfl, by decide +kernel, by decide +kernel⟩
theorem ok_is_breaking {P : Program} {w : World} {K : PySem.W.Frag} {mg : Str → Option Value} {base : Heap} {t : Adr} {f : Addr} {fd : FuncData} (F : Fun K "is_breaking" "is_breaking" s_is_breaking f fd) (T : Txt K mg t) (C_may_end : Callee P w K mg base 1 "may_end" ["boxes", "end"] (sp_may_end K t)) : FnOk P w K mg base CX0 2 f fd ["boxes", "ends"] (sp_is_breaking K t) := by
  refine F.ok sc_is_breaking (fun vs H Q E h => ?_) (fun cdv A outer s H vs Q E hr h => ⟨rd_is_breaking K t, ?_, rdok_is_breaking T.tx h⟩)
  · obtain ⟨_, _, _, _, rfl, _⟩ := h
    rfl
  · exact (pss_cons (ps_set (i := 2) sc_is_breaking.nd rfl (Or.inl rfl) pe_int)
    (pss_cons (ps_for PassesOwn.never rfl (pi_list (pv 1)) (pg_name (i := 3) sc_is_breaking.nd rfl (Or.inl rfl))
      (pss_cons (ps_if (PW.pt (pw_or (pt_not (pt_chain op_le op_lt (pv 2) (pv 3) (pe_callB call_len_seq (by rfl) T.len PySem.boot_len (pa_cons (pv 0) pa_nil)))) (pw_or1 (pt_not (pt_truth (pe_callF C_may_end (hr.mono (by decide)) (by rfl) (pa_cons (pv 0) (pa_cons (pv 3) pa_nil))) (fun _ => rfl))))))
        (pss_one (ps_ret pe_bl))
        pss_nil)
      (pss_one (ps_set (i := 2) sc_is_breaking.nd rfl (Or.inl rfl) (pe_op op_add (pv 3) pe_int)))))
    (pss_one (ps_ret (pe_cmpR op_eq (pv 2) (pe_callB call_len_seq (by rfl) T.len PySem.boot_len (pa_cons (pv 0) pa_nil)) (nomark _))))))
theorem sc_best_breaking : FnScope ["boxes", "measure", "edges", "last", "line_ends", "rests", "ends", "weight", "begin", "choice"] ["boxes", "measure"] (defScope s_best_breaking) := ⟨rfl, rfl, rfl, by decide +kernel, rfl, by decide +kernel, by decide +kernel⟩
theorem ok_best_breaking {P : Program} {w : World} {K : PySem.W.Frag} {mg : Str → Option Value} {base : Heap} {t : Adr} {f : Addr} {fd : FuncData} (F : Fun K "best_breaking" "best_breaking" s_best_breaking f fd) (T : Txt K mg t) (C_Edges : Maker P w K mg base 1 "Edges" t.Edges ["self", "boxes"] (sp_Edges K t)) (C_follow : Callee P w K mg base 1 "follow" ["line_ends"] (sp_follow K t)) (C_best_line : Callee P w K mg base 1 "best_line" ["edges", "begin", "room", "ends", "rests"] (sp_best_line K t)) (C_may_end : Callee P w K mg base 1 "may_end" ["boxes", "end"] (sp_may_end K t)) (M_Measure_room_at : MethF P w K mg base 2 "room_at" t.Measure ["self", "begin"] (sp_Measure_room_at K t)) : FnOk P w K mg base CX0 3 f fd ["boxes", "measure"] (sp_best_breaking K t) := by
  refine F.ok sc_best_breaking (fun vs H Q E h => ?_) (fun cdv A outer s H vs Q E hr h => ⟨rd_best_breaking K t, ?_, rdok_best_breaking T.tx h⟩)
  · obtain ⟨_, _, _, _, rfl, _⟩ := h
    rfl
  · exact (pss_cons (ps_set (i := 2) sc_best_breaking.nd rfl (Or.inl rfl) (pe_makeF C_Edges (hr.mono (by decide)) (by rfl) (pa_cons (pv 0) pa_nil)))
    (pss_cons (ps_set (i := 3) sc_best_breaking.nd rfl (Or.inl rfl) (pe_op op_sub (pe_callB call_len_seq (by rfl) T.len PySem.boot_len (pa_cons (pv 0) pa_nil)) pe_int))
    (pss_cons (ps_set (i := 4) sc_best_breaking.nd rfl (Or.inl rfl) (pe_op op_rep (pe_lst (pa_cons (pv 3) pa_nil)) (pe_callB call_len_seq (by rfl) T.len PySem.boot_len (pa_cons (pv 0) pa_nil))))
    (pss_cons (ps_set (i := 5) sc_best_breaking.nd rfl (Or.inl rfl) (pe_op op_rep (pe_lst (pa_cons (pe_gl (by rfl) T.LINE_UNIT) pa_nil)) (pe_callB call_len_seq (by rfl) T.len PySem.boot_len (pa_cons (pv 0) pa_nil))))
    (pss_cons (ps_set (i := 6) sc_best_breaking.nd rfl (Or.inl rfl) (pe_lst (pa_cons (pv 3) pa_nil)))
    (pss_cons (ps_set (i := 7) sc_best_breaking.nd rfl (Or.inl rfl) pe_int)
    (pss_cons (ps_for PassesOwn.never rfl (pi_range3 (by rfl) T.range (pa_cons (pv 3) (pa_cons (pe_un un_neg pe_int) (pa_cons (pe_un un_neg pe_int) pa_nil)))) (pg_name (i := 8) sc_best_breaking.nd rfl (Or.inl rfl))
      (pss_cons (ps_if (PW.pt (pw_and (pt_cmpR op_lt (pv 8) (pv 3) (nomark _)) (pw_and1 (pt_truth (pe_callF C_may_end (hr.mono (by decide)) (by rfl) (pa_cons (pv 0) (pa_cons (pv 8) pa_nil))) (fun _ => rfl)))))
        (pss_cons (ps_set (i := 6) sc_best_breaking.nd rfl (Or.inl rfl) (pe_op op_cat (pe_lst (pa_cons (pv 8) pa_nil)) (pv 6)))
        (pss_one (ps_asg (pe_op op_add (pe_op op_add (pe_gl (by rfl) T.LINE_UNIT) (pe_op op_mul (pe_ix ix_tup (pe_ix ix_list (pv 0) (pv 8) (fun _ _ => rfl)) (pe_gl (by rfl) T.COST) (fun _ _ => rfl)) (pe_gl (by rfl) T.COST_UNIT))) (pv 7)) (pg_sub (pv 5) (pv 8) set_list))))
        pss_nil)
      (pss_cons (ps_set (i := 9) sc_best_breaking.nd rfl (Or.inl rfl) (pe_callF C_best_line (hr.mono (by decide)) (by rfl) (pa_cons (pv 2) (pa_cons (pv 8) (pa_cons (pe_methF M_Measure_room_at (pv 1) (hr.mono (by decide)) (pa_cons (pv 8) pa_nil)) (pa_cons (pv 6) (pa_cons (pv 5) pa_nil)))))))
      (pss_cons (ps_set (i := 7) sc_best_breaking.nd rfl (Or.inl rfl) (pe_ix ix_tup (pv 9) pe_int (fun _ _ => rfl)))
      (pss_one (ps_asg (pe_ix ix_tup (pv 9) pe_int (fun _ _ => rfl)) (pg_sub (pv 4) (pv 8) set_list)))))))
    (pss_one (ps_ret (pe_callF C_follow (hr.mono (by decide)) (by rfl) (pa_cons (pv 4) pa_nil)))))))))))
theorem sc_best_line : FnScope ["edges", "begin", "room", "ends", "rests", "stops", "tight_stops", "limit", "tight_limit", "least", "best_end", "end", "slack", "weight", "excess"] ["edges", "begin", "room", "ends", "rests"] (defScope s_best_line) := ⟨rfl, rfl, rfl, by decide +kernel, rfl, by decide +kernel, by decide +kernel⟩
theorem ok_best_line {P : Program} {w : World} {K : PySem.W.Frag} {mg : Str → Option Value} {base : Heap} {t : Adr} {f : Addr} {fd : FuncData} (F : Fun K "best_line" "best_line" s_best_line f fd) (T : Txt K mg t)  : FnOk P w K mg base CX0 1 f fd ["edges", "begin", "room", "ends", "rests"] (sp_best_line K t) := by
  refine F.ok sc_best_line (fun vs H Q E h => ?_) (fun cdv A outer s H vs Q E hr h => ⟨rd_best_line K t, ?_, rdok_best_line T.tx h⟩)
  · obtain ⟨_, _, _, _, _, _, _, rfl, _⟩ := h
    rfl
  · exact (pss_cons (ps_set (i := 5) sc_best_line.nd rfl (Or.inl rfl) (pe_fld (pv 0) rfl))
    (pss_cons (ps_set (i := 6) sc_best_line.nd rfl (Or.inl rfl) (pe_fld (pv 0) rfl))
    (pss_cons (ps_set (i := 7) sc_best_line.nd rfl (Or.inl rfl) (pe_op op_add (pe_ix ix_list (pe_fld (pv 0) rfl) (pv 1) (fun _ _ => rfl)) (pv 2)))
    (pss_cons (ps_set (i := 8) sc_best_line.nd rfl (Or.inl rfl) (pe_op op_add (pe_ix ix_list (pe_fld (pv 0) rfl) (pv 1) (fun _ _ => rfl)) (pv 2)))
    (pss_cons (ps_if (pt_cmpR op_le (pe_ix ix_list (pv 5) (pe_un un_neg pe_int) (fun _ _ => rfl)) (pv 7) (nomark _))
      (pss_one (ps_ret (pe_tup (pa_cons (pe_gl (by rfl) T.LINE_UNIT) (pa_cons (pe_op op_sub (pe_callB call_len_seq (by rfl) T.len PySem.boot_len (pa_cons (pv 5) pa_nil)) pe_int) pa_nil)))))
      pss_nil)
    (pss_cons (ps_set (i := 9) sc_best_line.nd rfl (Or.inl rfl) (pe_gl (by rfl) T.HEAVIEST))
    (pss_cons (ps_set (i := 10) sc_best_line.nd rfl (Or.inl rfl) (pv 1))
    (pss_cons (ps_for PassesOwn.never rfl (pi_list (pv 3)) (pg_name (i := 11) sc_best_line.nd rfl (Or.inl rfl))
      (pss_cons (ps_set (i := 12) sc_best_line.nd rfl (Or.inl rfl) (pe_op op_sub (pv 7) (pe_ix ix_list (pv 5) (pv 11) (fun _ _ => rfl))))
      (pss_cons (ps_set (i := 13) sc_best_line.nd rfl (Or.inl rfl) (pe_op op_mul (pe_op op_mul (pv 12) (pv 12)) (pe_gl (by rfl) T.COST_UNIT)))
      (pss_cons (ps_if (pt_cmpR op_lt (pv 12) pe_int (nomark _))
        (pss_cons (ps_set (i := 14) sc_best_line.nd rfl (Or.inl rfl) (pe_op op_sub (pe_ix ix_list (pv 6) (pv 11) (fun _ _ => rfl)) (pv 8)))
        (pss_cons (ps_if (pt_cmpR op_gt (pv 14) pe_int (nomark _))
          (pss_one (ps_aug (i := 13) sc_best_line.nd rfl (Or.inl rfl) (pe_op op_mul (pv 14) (pe_gl (by rfl) T.OVERFULL_UNIT)) iop_add))
          pss_nil)
        (pss_one (ps_if (pt_cmpR op_gt (pv 13) (pv 9) (nomark _))
          (pss_one ps_break)
          pss_nil))))
        pss_nil)
      (pss_cons (ps_aug (i := 13) sc_best_line.nd rfl (Or.inl rfl) (pe_ix ix_list (pv 4) (pv 11) (fun _ _ => rfl)) iop_add)
      (pss_one (ps_if (pt_cmpR op_lt (pv 13) (pv 9) (nomark _))
        (pss_cons (ps_set (i := 9) sc_best_line.nd rfl (Or.inl rfl) (pv 13))
        (pss_one (ps_set (i := 10) sc_best_line.nd rfl (Or.inl rfl) (pv 11))))
        pss_nil)))))))
    (pss_one (ps_ret (pe_tup (pa_cons (pv 9) (pa_cons (pv 10) pa_nil)))))))))))))
theorem sc_follow : FnScope ["line_ends", "ends", "begin"] ["line_ends"] (defScope s_follow) := ⟨rfl, rfl, rfl, by decide +kernel, rfl, by decide +kernel, by decide +kernel⟩
theorem ok_follow {P : Program} {w : World} {K : PySem.W.Frag} {mg : Str → Option Value} {base : Heap} {t : Adr} {f : Addr} {fd : FuncData} (F : Fun K "follow" "follow" s_follow f fd) (T : Txt K mg t)  : FnOk P w K mg base CX0 1 f fd ["line_ends"] (sp_follow K t) := by
  refine F.ok sc_follow (fun vs H Q E h => ?_) (fun cdv A outer s H vs Q E hr h => ⟨rd_follow K t, ?_, rdok_follow T.tx h⟩)
  · obtain ⟨_, _, _, _, rfl, _⟩ := h
    rfl
  · exact (pss_cons (ps_set (i := 1) sc_follow.nd rfl (Or.inl rfl) (pe_lst pa_nil))
    (pss_cons (ps_set (i := 2) sc_follow.nd rfl (Or.inl rfl) pe_int)
    (pss_cons (ps_while PassesOwn.never (pt_cmpR op_lt (pv 2) (pe_callB call_len_seq (by rfl) T.len PySem.boot_len (pa_cons (pv 0) pa_nil)) (nomark _))
      (pss_cons (ps_expr (pe_bm PySem.F.plainAttrs_list PySem.F.slot_list_append PySem.F.type_list_append mt_append (pv 1) (pa_cons (pe_ix ix_list (pv 0) (pv 2) (fun _ _ => rfl)) pa_nil)))
      (pss_one (ps_set (i := 2) sc_follow.nd rfl (Or.inl rfl) (pe_op op_add (pe_ix ix_list (pv 0) (pv 2) (fun _ _ => rfl)) pe_int)))))
    (pss_one (ps_ret (pv 1))))))
theorem sc_greedy_breaking : FnScope ["boxes", "measure", "edges", "ends", "begin", "end"] ["boxes", "measure"] (defScope s_greedy_breaking) := ⟨rfl, rfl, rfl, by decide +kernel, rfl, by decide +kernel, by decide +kernel⟩
theorem ok_greedy_breaking {P : Program} {w : World} {K : PySem.W.Frag} {mg : Str → Option Value} {base : Heap} {t : Adr} {f : Addr} {fd : FuncData} (F : Fun K "greedy_breaking" "greedy_breaking" s_greedy_breaking f fd) (T : Txt K mg t) (C_Edges : Maker P w K mg base 1 "Edges" t.Edges ["self", "boxes"] (sp_Edges K t)) (C_greedy_line : Callee P w K mg base 2 "greedy_line" ["boxes", "edges", "begin", "room"] (sp_greedy_line K t)) (M_Measure_room_at : MethF P w K mg base 2 "room_at" t.Measure ["self", "begin"] (sp_Measure_room_at K t)) : FnOk P w K mg base CX0 3 f fd ["boxes", "measure"] (sp_greedy_breaking K t) := by
  refine F.ok sc_greedy_breaking (fun vs H Q E h => ?_) (fun cdv A outer s H vs Q E hr h => ⟨rd_greedy_breaking K t, ?_, rdok_greedy_breaking T.tx h⟩)
  · obtain ⟨_, _, _, _, rfl, _⟩ := h
    rfl
  · exact (pss_cons (ps_set (i := 2) sc_greedy_breaking.nd rfl (Or.inl rfl) (pe_makeF C_Edges (hr.mono (by decide)) (by rfl) (pa_cons (pv 0) pa_nil)))
    (pss_cons (ps_set (i := 3) sc_greedy_breaking.nd rfl (Or.inl rfl) (pe_lst pa_nil))
    (pss_cons (ps_set (i := 4) sc_greedy_breaking.nd rfl (Or.inl rfl) pe_int)
    (pss_cons (ps_while PassesOwn.never (pt_cmpR op_lt (pv 4) (pe_callB call_len_seq (by rfl) T.len PySem.boot_len (pa_cons (pv 0) pa_nil)) (nomark _))
      (pss_cons (ps_set (i := 5) sc_greedy_breaking.nd rfl (Or.inl rfl) (pe_callF C_greedy_line (hr.mono (by decide)) (by rfl) (pa_cons (pv 0) (pa_cons (pv 2) (pa_cons (pv 4) (pa_cons (pe_methF M_Measure_room_at (pv 1) (hr.mono (by decide)) (pa_cons (pv 4) pa_nil)) pa_nil))))))
      (pss_cons (ps_expr (pe_bm PySem.F.plainAttrs_list PySem.F.slot_list_append PySem.F.type_list_append mt_append (pv 3) (pa_cons (pv 5) pa_nil)))
      (pss_one (ps_set (i := 4) sc_greedy_breaking.nd rfl (Or.inl rfl) (pe_op op_add (pv 5) pe_int))))))
    (pss_one (ps_ret (pv 3)))))))
theorem sc_greedy_line : FnScope ["boxes", "edges", "begin", "room", "tight_limit", "chosen", "end"] ["boxes", "edges", "begin", "room"] (defScope s_greedy_line) := ⟨rfl, rfl, rfl, by decide +kernel, rfl, by decide +kernel, by decide +kernel⟩
theorem ok_greedy_line {P : Program} {w : World} {K : PySem.W.Frag} {mg : Str → Option Value} {base : Heap} {t : Adr} {f : Addr} {fd : FuncData} (F : Fun K "greedy_line" "greedy_line" s_greedy_line f fd) (T : Txt K mg t) (C_may_end : Callee P w K mg base 1 "may_end" ["boxes", "end"] (sp_may_end K t)) : FnOk P w K mg base CX0 2 f fd ["boxes", "edges", "begin", "room"] (sp_greedy_line K t) := by
  refine F.ok sc_greedy_line (fun vs H Q E h => ?_) (fun cdv A outer s H vs Q E hr h => ⟨rd_greedy_line K t, ?_, rdok_greedy_line T.tx h⟩)
  · obtain ⟨_, _, _, _, _, rfl, _⟩ := h
    rfl
  · exact (pss_cons (ps_set (i := 4) sc_greedy_line.nd rfl (Or.inl rfl) (pe_op op_add (pe_ix ix_list (pe_fld (pv 1) rfl) (pv 2) (fun _ _ => rfl)) (pv 3)))
    (pss_cons (ps_set (i := 5) sc_greedy_line.nd rfl (Or.inl rfl) pe_non)
    (pss_cons (ps_for PassesOwn.never rfl (pi_range2 (by rfl) T.range (pa_cons (pv 2) (pa_cons (pe_callB call_len_seq (by rfl) T.len PySem.boot_len (pa_cons (pv 0) pa_nil)) pa_nil))) (pg_name (i := 6) sc_greedy_line.nd rfl (Or.inl rfl))
      (pss_one (ps_if (pt_truth (pe_callF C_may_end (hr.mono (by decide)) (by rfl) (pa_cons (pv 0) (pa_cons (pv 6) pa_nil))) (fun _ => rfl))
        (pss_cons (ps_if (PW.pt (pw_and (pt_cmpR op_notN (pv 5) pe_non (nomark _)) (pw_and1 (pt_cmpR op_gt (pe_ix ix_list (pe_fld (pv 1) rfl) (pv 6) (fun _ _ => rfl)) (pv 4) (nomark _)))))
          (pss_one ps_break)
          pss_nil)
        (pss_one (ps_set (i := 5) sc_greedy_line.nd rfl (Or.inl rfl) (pv 6))))
        pss_nil)))
    (pss_one (ps_ret (pv 5))))))
theorem sc_natural_width : FnScope ["boxes"] ["boxes"] (defScope s_natural_width) := ⟨rfl, rfl, rfl, by decide +kernel, rfl, by decide +kernel, by decide +kernel⟩
theorem ok_natural_width {P : Program} {w : World} {K : PySem.W.Frag} {mg : Str → Option Value} {base : Heap} {t : Adr} {f : Addr} {fd : FuncData} (F : Fun K "natural_width" "natural_width" s_natural_width f fd) (T : Txt K mg t) (C_Edges : Maker P w K mg base 1 "Edges" t.Edges ["self", "boxes"] (sp_Edges K t)) : FnOk P w K mg base CX0 3 f fd ["boxes"] (sp_natural_width K t) := by
  refine F.ok sc_natural_width (fun vs H Q E h => ?_) (fun cdv A outer s H vs Q E hr h => ⟨rd_natural_width K t, ?_, rdok_natural_width T.tx h⟩)
  · obtain ⟨_, _, rfl, _⟩ := h
    rfl
  · exact (pss_one (ps_ret (pe_ifExp (pt_truth (pv 0) (fun _ => rfl)) (pe_ix ix_list (pe_fld (pe_makeF C_Edges (hr.mono (by decide)) (by rfl) (pa_cons (pv 0) pa_nil)) rfl) (pe_un un_neg pe_int) (fun _ _ => rfl)) pe_int)))
theorem sc_narrowest_measure : FnScope ["boxes", "edges", "widest", "begin", "end"] ["boxes"] (defScope s_narrowest_measure) := ⟨rfl, rfl, rfl, by decide +kernel, rfl, by decide +kernel, by decide +kernel⟩
theorem ok_narrowest_measure {P : Program} {w : World} {K : PySem.W.Frag} {mg : Str → Option Value} {base : Heap} {t : Adr} {f : Addr} {fd : FuncData} (F : Fun K "narrowest_measure" "narrowest_measure" s_narrowest_measure f fd) (T : Txt K mg t) (C_Edges : Maker P w K mg base 1 "Edges" t.Edges ["self", "boxes"] (sp_Edges K t)) (C_may_end : Callee P w K mg base 1 "may_end" ["boxes", "end"] (sp_may_end K t)) : FnOk P w K mg base CX0 3 f fd ["boxes"] (sp_narrowest_measure K t) := by
  refine F.ok sc_narrowest_measure (fun vs H Q E h => ?_) (fun cdv A outer s H vs Q E hr h => ⟨rd_narrowest_measure K t, ?_, rdok_narrowest_measure T.tx h⟩)
  · obtain ⟨_, _, rfl, _⟩ := h
    rfl
  · exact (pss_cons (ps_set (i := 1) sc_narrowest_measure.nd rfl (Or.inl rfl) (pe_makeF C_Edges (hr.mono (by decide)) (by rfl) (pa_cons (pv 0) pa_nil)))
    (pss_cons (ps_set (i := 2) sc_narrowest_measure.nd rfl (Or.inl rfl) pe_int)
    (pss_cons (ps_set (i := 3) sc_narrowest_measure.nd rfl (Or.inl rfl) pe_int)
    (pss_cons (ps_for PassesOwn.never rfl (pi_range1 (by rfl) T.range (pa_cons (pe_callB call_len_seq (by rfl) T.len PySem.boot_len (pa_cons (pv 0) pa_nil)) pa_nil)) (pg_name (i := 4) sc_narrowest_measure.nd rfl (Or.inl rfl))
      (pss_one (ps_if (pt_truth (pe_callF C_may_end (hr.mono (by decide)) (by rfl) (pa_cons (pv 0) (pa_cons (pv 4) pa_nil))) (fun _ => rfl))
        (pss_cons (ps_set (i := 2) sc_narrowest_measure.nd rfl (Or.inl rfl) (pe_callB (call_max2 rfl) (by rfl) T.max boot_max' (pa_cons (pv 2) (pa_cons (pe_op op_sub (pe_ix ix_list (pe_fld (pv 1) rfl) (pv 4) (fun _ _ => rfl)) (pe_ix ix_list (pe_fld (pv 1) rfl) (pv 3) (fun _ _ => rfl))) pa_nil))))
        (pss_one (ps_set (i := 3) sc_narrowest_measure.nd rfl (Or.inl rfl) (pe_op op_add (pv 4) pe_int))))
        pss_nil)))
    (pss_one (ps_ret (pv 2)))))))
theorem sc_Line_init : FnScope ["self", "boxes", "begin", "end", "measure", "boxes_inside", "spaced", "box"] ["self", "boxes", "begin", "end", "measure"] (defScope s_Line_init) := ⟨rfl, rfl, rfl, by decide +kernel, rfl, by decide +kernel, by decide +kernel⟩
theorem ok_Line_init {P : Program} {w : World} {K : PySem.W.Frag} {mg : Str → Option Value} {base : Heap} {t : Adr} {f : Addr} {fd : FuncData} (F : Fun K "__init__" "Line.__init__" s_Line_init f fd) (T : Txt K mg t) (M_Measure_indent_at : MethF P w K mg base 1 "indent_at" t.Measure ["self", "begin"] (sp_Measure_indent_at K t)) (M_Measure_room_at : MethF P w K mg base 2 "room_at" t.Measure ["self", "begin"] (sp_Measure_room_at K t)) : FnOk P w K mg base CX0 3 f fd ["self", "boxes", "begin", "end", "measure"] (sp_Line K t) := by
  refine F.ok sc_Line_init (fun vs H Q E h => ?_) (fun cdv A outer s H vs Q E hr h => ⟨rd_Line_init K t, ?_, rdok_Line_init T.tx h⟩)
  · obtain ⟨_, _, _, _, _, _, _, _, rfl, _⟩ := h
    rfl
  · exact (pss_cons (ps_set (i := 5) sc_Line_init.nd rfl (Or.inl rfl) (pe_slice sl_list (pv 1) (po_some (pv 2)) (po_some (pe_op op_add (pv 3) pe_int))))
    (pss_cons (ps_set (i := 6) sc_Line_init.nd rfl (Or.inl rfl) (pe_slice sl_list (pv 1) (po_some (pv 2)) (po_some (pv 3))))
    (pss_cons (ps_fld (pv 0) (pv 2) rfl)
    (pss_cons (ps_fld (pv 0) (pv 3) rfl)
    (pss_cons (ps_fld (pv 0) (pe_cmpR op_eq (pv 3) (pe_op op_sub (pe_callB call_len_seq (by rfl) T.len PySem.boot_len (pa_cons (pv 1) pa_nil)) pe_int) (nomark _)) rfl)
    (pss_cons (ps_fld (pv 0) (pe_methF M_Measure_indent_at (pv 4) (hr.mono (by decide)) (pa_cons (pv 2) pa_nil)) rfl)
    (pss_cons (ps_fld (pv 0) (pe_op op_add (pe_callB (cr_sum rfl) (by rfl) T.sum boot_sum' (pa_cons (pe_lc rfl sc_Line_init.nd (pi_list (pv 5)) (blkOk_by (own := [("box", 7)]) (by show blkC ["self", "boxes", "begin", "end", "measure", "boxes_inside", "spaced", "box"] (defScope s_Line_init) _ _ = true; decide +kernel)) (fun _ _ _ _ _ => (pg_name (i := 7) sc_Line_init.nd rfl (Or.inl rfl))) (fun _ _ _ _ _ => pts_nil) (fun _ _ _ _ _ => (pe_ix ix_tup (pv 7) (pe_gl (by rfl) T.WIDTH) (fun _ _ => rfl)))) pa_nil)) (pe_callB (cr_sum rfl) (by rfl) T.sum boot_sum' (pa_cons (pe_lc rfl sc_Line_init.nd (pi_list (pv 6)) (blkOk_by (own := [("box", 7)]) (by show blkC ["self", "boxes", "begin", "end", "measure", "boxes_inside", "spaced", "box"] (defScope s_Line_init) _ _ = true; decide +kernel)) (fun _ _ _ _ _ => (pg_name (i := 7) sc_Line_init.nd rfl (Or.inl rfl))) (fun _ _ _ _ _ => pts_nil) (fun _ _ _ _ _ => (pe_ix ix_tup (pv 7) (pe_gl (by rfl) T.SPACE) (fun _ _ => rfl)))) pa_nil))) rfl)
    (pss_cons (ps_fld (pv 0) (pe_callB (cr_sum rfl) (by rfl) T.sum boot_sum' (pa_cons (pe_lc rfl sc_Line_init.nd (pi_list (pv 6)) (blkOk_by (own := [("box", 7)]) (by show blkC ["self", "boxes", "begin", "end", "measure", "boxes_inside", "spaced", "box"] (defScope s_Line_init) _ _ = true; decide +kernel)) (fun _ _ _ _ _ => (pg_name (i := 7) sc_Line_init.nd rfl (Or.inl rfl))) (fun _ _ _ _ _ => pts_nil) (fun _ _ _ _ _ => (pe_ix ix_tup (pv 7) (pe_gl (by rfl) T.STRETCH) (fun _ _ => rfl)))) pa_nil)) rfl)
    (pss_cons (ps_fld (pv 0) (pe_callB (cr_sum rfl) (by rfl) T.sum boot_sum' (pa_cons (pe_lc rfl sc_Line_init.nd (pi_list (pv 6)) (blkOk_by (own := [("box", 7)]) (by show blkC ["self", "boxes", "begin", "end", "measure", "boxes_inside", "spaced", "box"] (defScope s_Line_init) _ _ = true; decide +kernel)) (fun _ _ _ _ _ => (pg_name (i := 7) sc_Line_init.nd rfl (Or.inl rfl))) (fun _ _ _ _ _ => pts_nil) (fun _ _ _ _ _ => (pe_ix ix_tup (pv 7) (pe_gl (by rfl) T.SHRINK) (fun _ _ => rfl)))) pa_nil)) rfl)
    (pss_cons (ps_fld (pv 0) (pe_op op_sub (pe_methF M_Measure_room_at (pv 4) (hr.mono (by decide)) (pa_cons (pv 2) pa_nil)) (pe_fld (pv 0) rfl)) rfl)
    (pss_cons (ps_fld (pv 0) (pe_callB (call_max2 rfl) (by rfl) T.max boot_max' (pa_cons pe_int (pa_cons (pe_op op_sub (pe_un un_neg (pe_fld (pv 0) rfl)) (pe_fld (pv 0) rfl)) pa_nil))) rfl)
    (pss_cons (ps_fld (pv 0) (pe_callB (cr_max rfl) (by rfl) T.max boot_max' (pa_cons (pe_lc rfl sc_Line_init.nd (pi_list (pv 5)) (blkOk_by (own := [("box", 7)]) (by show blkC ["self", "boxes", "begin", "end", "measure", "boxes_inside", "spaced", "box"] (defScope s_Line_init) _ _ = true; decide +kernel)) (fun _ _ _ _ _ => (pg_name (i := 7) sc_Line_init.nd rfl (Or.inl rfl))) (fun _ _ _ _ _ => pts_nil) (fun _ _ _ _ _ => (pe_ix ix_tup (pv 7) (pe_gl (by rfl) T.HEIGHT) (fun _ _ => rfl)))) pa_nil)) rfl)
    (pss_cons (ps_fld (pv 0) (pe_callB (cr_max rfl) (by rfl) T.max boot_max' (pa_cons (pe_lc rfl sc_Line_init.nd (pi_list (pv 5)) (blkOk_by (own := [("box", 7)]) (by show blkC ["self", "boxes", "begin", "end", "measure", "boxes_inside", "spaced", "box"] (defScope s_Line_init) _ _ = true; decide +kernel)) (fun _ _ _ _ _ => (pg_name (i := 7) sc_Line_init.nd rfl (Or.inl rfl))) (fun _ _ _ _ _ => pts_nil) (fun _ _ _ _ _ => (pe_ix ix_tup (pv 7) (pe_gl (by rfl) T.DEPTH) (fun _ _ => rfl)))) pa_nil)) rfl)
    (pss_cons (ps_fld (pv 0) (pe_ifExp (PW.pt (pw_and (pt_truth (pe_fld (pv 0) rfl) (fun _ => rfl)) (pw_and1 (pt_cmpR op_ge (pe_fld (pv 0) rfl) pe_int (nomark _))))) pe_int (pe_op op_mul (pe_fld (pv 0) rfl) (pe_fld (pv 0) rfl))) rfl)
    (pss_one (ps_if (pt_not (pt_truth (pe_fld (pv 0) rfl) (fun _ => rfl)))
      (pss_one (ps_fldaug (pv 0) (pe_ix ix_tup (pe_ix ix_list (pv 1) (pv 3) (fun _ _ => rfl)) (pe_gl (by rfl) T.COST) (fun _ _ => rfl)) in_add))
      pss_nil))))))))))))))))
theorem sc_set_lines : FnScope ["boxes", "ends", "measure", "lines", "begin", "end"] ["boxes", "ends", "measure"] (defScope s_set_lines) := ⟨rfl, rfl, rfl, by decide +kernel, rfl, by decide +kernel, by decide +kernel⟩
theorem ok_set_lines {P : Program} {w : World} {K : PySem.W.Frag} {mg : Str → Option Value} {base : Heap} {t : Adr} {f : Addr} {fd : FuncData} (F : Fun K "set_lines" "set_lines" s_set_lines f fd) (T : Txt K mg t) (C_Line : Maker P w K mg base 3 "Line" t.Line ["self", "boxes", "begin", "end", "measure"] (sp_Line K t)) : FnOk P w K mg base CX0 5 f fd ["boxes", "ends", "measure"] (sp_set_lines K t) := by
  refine F.ok sc_set_lines (fun vs H Q E h => ?_) (fun cdv A outer s H vs Q E hr h => ⟨rd_set_lines K t, ?_, rdok_set_lines T.tx h⟩)
  · obtain ⟨_, _, _, _, _, _, rfl, _⟩ := h
    rfl
  · exact (pss_cons (ps_set (i := 3) sc_set_lines.nd rfl (Or.inl rfl) (pe_lst pa_nil))
    (pss_cons (ps_set (i := 4) sc_set_lines.nd rfl (Or.inl rfl) pe_int)
    (pss_cons (ps_for PassesOwn.never rfl (pi_list (pv 1)) (pg_name (i := 5) sc_set_lines.nd rfl (Or.inl rfl))
      (pss_cons (ps_expr (pe_bm PySem.F.plainAttrs_list PySem.F.slot_list_append PySem.F.type_list_append mt_append (pv 3) (pa_cons (pe_makeF C_Line (hr.mono (by decide)) (by rfl) (pa_cons (pv 0) (pa_cons (pv 4) (pa_cons (pv 5) (pa_cons (pv 2) pa_nil))))) pa_nil)))
      (pss_one (ps_set (i := 4) sc_set_lines.nd rfl (Or.inl rfl) (pe_op op_add (pv 5) pe_int)))))
    (pss_one (ps_ret (pv 3))))))
theorem sc_totals : FnScope ["lines", "line"] ["lines"] (defScope s_totals) := ⟨rfl, rfl, rfl, by decide +kernel, rfl, by decide +kernel, by decide +kernel⟩
theorem ok_totals {P : Program} {w : World} {K : PySem.W.Frag} {mg : Str → Option Value} {base : Heap} {t : Adr} {f : Addr} {fd : FuncData} (F : Fun K "totals" "totals" s_totals f fd) (T : Txt K mg t)  : FnOk P w K mg base CX0 1 f fd ["lines"] (sp_totals K t) := by
  refine F.ok sc_totals (fun vs H Q E h => ?_) (fun cdv A outer s H vs Q E hr h => ⟨rd_totals K t, ?_, rdok_totals T.tx h⟩)
  · obtain ⟨_, _, _, _, rfl, _⟩ := h
    rfl
  · exact (pss_one (ps_ret (pe_lst (pa_cons (pe_callB (cr_sum rfl) (by rfl) T.sum boot_sum' (pa_cons (pe_lc rfl sc_totals.nd (pi_list (pv 0)) (blkOk_by (own := [("line", 1)]) (by show blkC ["lines", "line"] (defScope s_totals) _ _ = true; decide +kernel)) (fun _ _ _ _ _ => (pg_name (i := 1) sc_totals.nd rfl (Or.inl rfl))) (fun _ _ _ _ _ => pts_nil) (fun _ _ _ _ _ => (pe_fld (pv 1) rfl))) pa_nil)) (pa_cons (pe_callB (cr_sum rfl) (by rfl) T.sum boot_sum' (pa_cons (pe_lc rfl sc_totals.nd (pi_list (pv 0)) (blkOk_by (own := [("line", 1)]) (by show blkC ["lines", "line"] (defScope s_totals) _ _ = true; decide +kernel)) (fun _ _ _ _ _ => (pg_name (i := 1) sc_totals.nd rfl (Or.inl rfl))) (fun _ _ _ _ _ => pts_nil) (fun _ _ _ _ _ => (pe_fld (pv 1) rfl))) pa_nil)) (pa_cons (pe_callB call_len_seq (by rfl) T.len PySem.boot_len (pa_cons (pv 0) pa_nil)) pa_nil))))))
theorem sc_line_numbers : FnScope ["lines", "found", "line"] ["lines"] (defScope s_line_numbers) := ⟨rfl, rfl, rfl, by decide +kernel, rfl, by decide +kernel, by decide +kernel⟩
theorem ok_line_numbers {P : Program} {w : World} {K : PySem.W.Frag} {mg : Str → Option Value} {base : Heap} {t : Adr} {f : Addr} {fd : FuncData} (F : Fun K "line_numbers" "line_numbers" s_line_numbers f fd) (T : Txt K mg t)  : FnOk P w K mg base CX0 1 f fd ["lines"] (sp_line_numbers K t) := by
  refine F.ok sc_line_numbers (fun vs H Q E h => ?_) (fun cdv A outer s H vs Q E hr h => ⟨rd_line_numbers K t, ?_, rdok_line_numbers T.tx h⟩)
  · obtain ⟨_, _, _, _, rfl, _⟩ := h
    rfl
  · exact (pss_cons (ps_set (i := 1) sc_line_numbers.nd rfl (Or.inl rfl) (pe_lst pa_nil))
    (pss_cons (ps_for PassesOwn.never rfl (pi_list (pv 0)) (pg_name (i := 2) sc_line_numbers.nd rfl (Or.inl rfl))
      (pss_one (ps_expr (pe_bm PySem.F.plainAttrs_list PySem.F.slot_list_extend PySem.F.type_list_extend mt_extend (pv 1) (pa_cons (pe_lst (pa_cons (pe_fld (pv 2) rfl) (pa_cons (pe_fld (pv 2) rfl) (pa_cons (pe_fld (pv 2) rfl) (pa_cons (pe_fld (pv 2) rfl) (pa_cons (pe_fld (pv 2) rfl) (pa_cons (pe_fld (pv 2) rfl) pa_nil))))))) pa_nil)))))
    (pss_one (ps_ret (pv 1)))))
theorem sc_shares : FnScope ["amount", "parts", "whole", "found", "reached", "part"] ["amount", "parts"] (defScope s_shares) := ⟨rfl, rfl, rfl, by decide +kernel, rfl, by decide +kernel, by decide +kernel⟩
theorem ok_shares {P : Program} {w : World} {K : PySem.W.Frag} {mg : Str → Option Value} {base : Heap} {t : Adr} {f : Addr} {fd : FuncData} (F : Fun K "shares" "shares" s_shares f fd) (T : Txt K mg t)  : FnOk P w K mg base CX0 1 f fd ["amount", "parts"] (sp_shares K t) := by
  refine F.ok sc_shares (fun vs H Q E h => ?_) (fun cdv A outer s H vs Q E hr h => ⟨rd_shares K t, ?_, rdok_shares T.tx h⟩)
  · obtain ⟨_, _, _, rfl, _⟩ := h
    rfl
  · exact (pss_cons (ps_set (i := 2) sc_shares.nd rfl (Or.inl rfl) (pe_callB (cr_sum rfl) (by rfl) T.sum boot_sum' (pa_cons (pv 1) pa_nil)))
    (pss_cons (ps_set (i := 3) sc_shares.nd rfl (Or.inl rfl) (pe_lst (pa_cons pe_int pa_nil)))
    (pss_cons (ps_set (i := 4) sc_shares.nd rfl (Or.inl rfl) pe_int)
    (pss_cons (ps_for PassesOwn.never rfl (pi_list (pv 1)) (pg_name (i := 5) sc_shares.nd rfl (Or.inl rfl))
      (pss_cons (ps_aug (i := 4) sc_shares.nd rfl (Or.inl rfl) (pv 5) iop_add)
      (pss_one (ps_expr (pe_bm PySem.F.plainAttrs_list PySem.F.slot_list_append PySem.F.type_list_append mt_append (pv 3) (pa_cons (pe_op op_fdivB (pe_op op_mul (pv 0) (pv 4)) (pv 2)) pa_nil))))))
    (pss_one (ps_ret (pv 3)))))))
theorem sc_shifts : FnScope ["boxes", "line", "spaced", "taken", "box", "share"] ["boxes", "line"] (defScope s_shifts) := ⟨rfl, rfl, rfl, by decide +kernel, rfl, by decide +kernel, by decide +kernel⟩
theorem ok_shifts {P : Program} {w : World} {K : PySem.W.Frag} {mg : Str → Option Value} {base : Heap} {t : Adr} {f : Addr} {fd : FuncData} (F : Fun K "shifts" "shifts" s_shifts f fd) (T : Txt K mg t) (C_shares : Callee P w K mg base 1 "shares" ["amount", "parts"] (sp_shares K t)) : FnOk P w K mg base CX0 2 f fd ["boxes", "line"] (sp_shifts K t) := by
  refine F.ok sc_shifts (fun vs H Q E h => ?_) (fun cdv A outer s H vs Q E hr h => ⟨rd_shifts K t, ?_, rdok_shifts T.tx h⟩)
  · obtain ⟨_, _, _, _, _, _, rfl, _⟩ := h
    rfl
  · exact (pss_cons (ps_set (i := 2) sc_shifts.nd rfl (Or.inl rfl) (pe_slice sl_list (pv 0) (po_some (pe_fld (pv 1) rfl)) (po_some (pe_fld (pv 1) rfl))))
    (pss_cons (ps_if (PW.pt (pw_and (pt_cmpR op_gt (pe_fld (pv 1) rfl) pe_int (nomark _)) (pw_and (pt_not (pt_truth (pe_fld (pv 1) rfl) (fun _ => rfl))) (pw_and1 (pt_cmpR op_gt (pe_fld (pv 1) rfl) pe_int (nomark _))))))
      (pss_one (ps_ret (pe_callF C_shares (hr.mono (by decide)) (by rfl) (pa_cons (pe_fld (pv 1) rfl) (pa_cons (pe_lc rfl sc_shifts.nd (pi_list (pv 2)) (blkOk_by (own := [("box", 4)]) (by show blkC ["boxes", "line", "spaced", "taken", "box", "share"] (defScope s_shifts) _ _ = true; decide +kernel)) (fun _ _ _ _ _ => (pg_name (i := 4) sc_shifts.nd rfl (Or.inl rfl))) (fun _ _ _ _ _ => pts_nil) (fun _ _ _ _ _ => (pe_ix ix_tup (pv 4) (pe_gl (by rfl) T.STRETCH) (fun _ _ => rfl)))) pa_nil)))))
      pss_nil)
    (pss_cons (ps_if (PW.pt (pw_and (pt_cmpR op_lt (pe_fld (pv 1) rfl) pe_int (nomark _)) (pw_and1 (pt_cmpR op_gt (pe_fld (pv 1) rfl) pe_int (nomark _)))))
      (pss_cons (ps_set (i := 3) sc_shifts.nd rfl (Or.inl rfl) (pe_callB (call_min2 rfl) (by rfl) T.min boot_min' (pa_cons (pe_un un_neg (pe_fld (pv 1) rfl)) (pa_cons (pe_fld (pv 1) rfl) pa_nil))))
      (pss_one (ps_ret (pe_lc rfl sc_shifts.nd (pi_list (pe_callF C_shares (hr.mono (by decide)) (by rfl) (pa_cons (pv 3) (pa_cons (pe_lc rfl sc_shifts.nd (pi_list (pv 2)) (blkOk_by (own := [("box", 4)]) (by show blkC ["boxes", "line", "spaced", "taken", "box", "share"] (defScope s_shifts) _ _ = true; decide +kernel)) (fun _ _ _ _ _ => (pg_name (i := 4) sc_shifts.nd rfl (Or.inl rfl))) (fun _ _ _ _ _ => pts_nil) (fun _ _ _ _ _ => (pe_ix ix_tup (pv 4) (pe_gl (by rfl) T.SHRINK) (fun _ _ => rfl)))) pa_nil)))) (blkOk_by (own := [("share", 5)]) (by show blkC ["boxes", "line", "spaced", "taken", "box", "share"] (defScope s_shifts) _ _ = true; decide +kernel)) (fun _ _ _ _ _ => (pg_name (i := 5) sc_shifts.nd rfl (Or.inl rfl))) (fun _ _ _ _ _ => pts_nil) (fun _ _ _ _ _ => (pe_un un_neg (pv 5)))))))
      pss_nil)
    (pss_one (ps_ret (pe_op op_rep (pe_lst (pa_cons pe_int pa_nil)) (pe_op op_add (pe_callB call_len_seq (by rfl) T.len PySem.boot_len (pa_cons (pv 2) pa_nil)) pe_int)))))))
theorem sc_item_edges : FnScope ["boxes", "line", "x", "found", "box"] ["boxes", "line"] (defScope s_item_edges) := ⟨rfl, rfl, rfl, by decide +kernel, rfl, by decide +kernel, by decide +kernel⟩
theorem ok_item_edges {P : Program} {w : World} {K : PySem.W.Frag} {mg : Str → Option Value} {base : Heap} {t : Adr} {f : Addr} {fd : FuncData} (F : Fun K "item_edges" "item_edges" s_item_edges f fd) (T : Txt K mg t)  : FnOk P w K mg base CX0 1 f fd ["boxes", "line"] (sp_item_edges K t) := by
  refine F.ok sc_item_edges (fun vs H Q E h => ?_) (fun cdv A outer s H vs Q E hr h => ⟨rd_item_edges K t, ?_, rdok_item_edges T.tx h⟩)
  · obtain ⟨_, _, _, _, _, _, rfl, _⟩ := h
    rfl
  · exact (pss_cons (ps_set (i := 2) sc_item_edges.nd rfl (Or.inl rfl) (pe_fld (pv 1) rfl))
    (pss_cons (ps_set (i := 3) sc_item_edges.nd rfl (Or.inl rfl) (pe_lst pa_nil))
    (pss_cons (ps_for PassesOwn.never rfl (pi_list (pe_slice sl_list (pv 0) (po_some (pe_fld (pv 1) rfl)) (po_some (pe_op op_add (pe_fld (pv 1) rfl) pe_int)))) (pg_name (i := 4) sc_item_edges.nd rfl (Or.inl rfl))
      (pss_cons (ps_expr (pe_bm PySem.F.plainAttrs_list PySem.F.slot_list_append PySem.F.type_list_append mt_append (pv 3) (pa_cons (pv 2) pa_nil)))
      (pss_one (ps_aug (i := 2) sc_item_edges.nd rfl (Or.inl rfl) (pe_op op_add (pe_ix ix_tup (pv 4) (pe_gl (by rfl) T.WIDTH) (fun _ _ => rfl)) (pe_ix ix_tup (pv 4) (pe_gl (by rfl) T.SPACE) (fun _ _ => rfl))) iop_add))))
    (pss_one (ps_ret (pv 3))))))
theorem sc_baselines : FnScope ["lines", "lead", "gap", "found", "at", "line", "drop"] ["lines", "lead", "gap"] (defScope s_baselines) := ⟨rfl, rfl, rfl, by decide +kernel, rfl, by decide +kernel, by decide +kernel⟩
theorem ok_baselines {P : Program} {w : World} {K : PySem.W.Frag} {mg : Str → Option Value} {base : Heap} {t : Adr} {f : Addr} {fd : FuncData} (F : Fun K "baselines" "baselines" s_baselines f fd) (T : Txt K mg t)  : FnOk P w K mg base CX0 1 f fd ["lines", "lead", "gap"] (sp_baselines K t) := by
  refine F.ok sc_baselines (fun vs H Q E h => ?_) (fun cdv A outer s H vs Q E hr h => ⟨rd_baselines K t, ?_, rdok_baselines T.tx h⟩)
  · obtain ⟨_, _, _, _, _, _, rfl, _⟩ := h
    rfl
  · exact (pss_cons (ps_set (i := 3) sc_baselines.nd rfl (Or.inl rfl) (pe_lst pa_nil))
    (pss_cons (ps_for PassesOwn.never rfl (pi_enum (by rfl) T.enumerate (pa_cons (pv 0) pa_nil)) (pg_tup rfl (pgs_cons (pg_name (i := 4) sc_baselines.nd rfl (Or.inl rfl)) (pgs_cons (pg_name (i := 5) sc_baselines.nd rfl (Or.inl rfl)) pgs_nil)))
      (pss_one (ps_if (pt_cmpR op_eq (pv 4) pe_int (nomark _))
        (pss_one (ps_expr (pe_bm PySem.F.plainAttrs_list PySem.F.slot_list_append PySem.F.type_list_append mt_append (pv 3) (pa_cons (pe_un un_neg (pe_fld (pv 5) rfl)) pa_nil))))
        (pss_cons (ps_set (i := 6) sc_baselines.nd rfl (Or.inl rfl) (pe_callB (call_max2 rfl) (by rfl) T.max boot_max' (pa_cons (pv 1) (pa_cons (pe_op op_add (pe_op op_add (pe_fld (pe_ix ix_list (pv 0) (pe_op op_sub (pv 4) pe_int) (fun _ _ => rfl)) rfl) (pv 2)) (pe_fld (pv 5) rfl)) pa_nil))))
        (pss_one (ps_expr (pe_bm PySem.F.plainAttrs_list PySem.F.slot_list_append PySem.F.type_list_append mt_append (pv 3) (pa_cons (pe_op op_sub (pe_ix ix_list (pv 3) (pe_un un_neg pe_int) (fun _ _ => rfl)) (pv 6)) pa_nil))))))))
    (pss_one (ps_ret (pv 3)))))
theorem sc_item_places : FnScope ["boxes", "lines", "even", "lead", "gap", "found", "line", "y", "xs", "x", "shift"] ["boxes", "lines", "even", "lead", "gap"] (defScope s_item_places) := ⟨rfl, rfl, rfl, by decide +kernel, rfl, by decide +kernel, by decide +kernel⟩
theorem ok_item_places {P : Program} {w : World} {K : PySem.W.Frag} {mg : Str → Option Value} {base : Heap} {t : Adr} {f : Addr} {fd : FuncData} (F : Fun K "item_places" "item_places" s_item_places f fd) (T : Txt K mg t) (C_baselines : Callee P w K mg base 1 "baselines" ["lines", "lead", "gap"] (sp_baselines K t)) (C_item_edges : Callee P w K mg base 1 "item_edges" ["boxes", "line"] (sp_item_edges K t)) (C_shifts : Callee P w K mg base 2 "shifts" ["boxes", "line"] (sp_shifts K t)) : FnOk P w K mg base CX0 3 f fd ["boxes", "lines", "even", "lead", "gap"] (sp_item_places K t) := by
  refine F.ok sc_item_places (fun vs H Q E h => ?_) (fun cdv A outer s H vs Q E hr h => ⟨rd_item_places K t, ?_, rdok_item_places T.tx h⟩)
  · obtain ⟨_, _, _, _, _, _, _, _, rfl, _⟩ := h
    rfl
  · exact (pss_cons (ps_set (i := 5) sc_item_places.nd rfl (Or.inl rfl) (pe_lst pa_nil))
    (pss_cons (ps_for PassesOwn.never rfl (pi_zip (by rfl) T.zip (pa_cons (pv 1) (pa_cons (pe_callF C_baselines (hr.mono (by decide)) (by rfl) (pa_cons (pv 1) (pa_cons (pv 3) (pa_cons (pv 4) pa_nil)))) pa_nil))) (pg_tup rfl (pgs_cons (pg_name (i := 6) sc_item_places.nd rfl (Or.inl rfl)) (pgs_cons (pg_name (i := 7) sc_item_places.nd rfl (Or.inl rfl)) pgs_nil)))
      (pss_cons (ps_set (i := 8) sc_item_places.nd rfl (Or.inl rfl) (pe_callF C_item_edges (hr.mono (by decide)) (by rfl) (pa_cons (pv 0) (pa_cons (pv 6) pa_nil))))
      (pss_cons (ps_if (pt_cmpR op_eq (pv 2) pe_int (nomark _))
        (pss_one (ps_setLc (i := 8) rfl sc_item_places.nd rfl rfl (sw_true rfl rfl rfl (by decide +kernel)) (pi_zip (by rfl) T.zip (pa_cons (pv 8) (pa_cons (pe_callF C_shifts (hr.mono (by decide)) (by rfl) (pa_cons (pv 0) (pa_cons (pv 6) pa_nil))) pa_nil))) (blkOk_by (own := [("x", 9), ("shift", 10)]) (by show blkC ["boxes", "lines", "even", "lead", "gap", "found", "line", "y", "xs", "x", "shift"] (defScope s_item_places) _ _ = true; decide +kernel)) (fun _ _ _ _ _ => (pg_tup rfl (pgs_cons (pg_name (i := 9) sc_item_places.nd rfl (Or.inl rfl)) (pgs_cons (pg_name (i := 10) sc_item_places.nd rfl (Or.inl rfl)) pgs_nil)))) (fun _ _ _ _ _ => pts_nil) (fun _ _ _ _ _ => (pe_op op_add (pv 9) (pv 10)))))
        pss_nil)
      (pss_one (ps_for PassesOwn.never rfl (pi_list (pv 8)) (pg_name (i := 9) sc_item_places.nd rfl (Or.inl rfl))
        (pss_one (ps_expr (pe_bm PySem.F.plainAttrs_list PySem.F.slot_list_extend PySem.F.type_list_extend mt_extend (pv 5) (pa_cons (pe_lst (pa_cons (pv 9) (pa_cons (pv 7) pa_nil))) pa_nil)))))))))
    (pss_one (ps_ret (pv 5)))))
theorem sc_outer_box : FnScope ["lines", "lead", "gap", "right", "line"] ["lines", "lead", "gap"] (defScope s_outer_box) := ⟨rfl, rfl, rfl, by decide +kernel, rfl, by decide +kernel, by decide +kernel⟩
theorem ok_outer_box {P : Program} {w : World} {K : PySem.W.Frag} {mg : Str → Option Value} {base : Heap} {t : Adr} {f : Addr} {fd : FuncData} (F : Fun K "outer_box" "outer_box" s_outer_box f fd) (T : Txt K mg t) (C_baselines : Callee P w K mg base 1 "baselines" ["lines", "lead", "gap"] (sp_baselines K t)) : FnOk P w K mg base CX0 2 f fd ["lines", "lead", "gap"] (sp_outer_box K t) := by
  refine F.ok sc_outer_box (fun vs H Q E h => ?_) (fun cdv A outer s H vs Q E hr h => ⟨rd_outer_box K t, ?_, rdok_outer_box T.tx h⟩)
  · obtain ⟨_, _, _, _, _, rfl, _⟩ := h
    rfl
  · exact (pss_cons (ps_if (pt_not (pt_truth (pv 0) (fun _ => rfl)))
      (pss_one (ps_ret (pe_lst (pa_cons pe_int (pa_cons pe_int (pa_cons pe_int pa_nil))))))
      pss_nil)
    (pss_cons (ps_set (i := 3) sc_outer_box.nd rfl (Or.inl rfl) (pe_callB (cr_max rfl) (by rfl) T.max boot_max' (pa_cons (pe_lc rfl sc_outer_box.nd (pi_list (pv 0)) (blkOk_by (own := [("line", 4)]) (by show blkC ["lines", "lead", "gap", "right", "line"] (defScope s_outer_box) _ _ = true; decide +kernel)) (fun _ _ _ _ _ => (pg_name (i := 4) sc_outer_box.nd rfl (Or.inl rfl))) (fun _ _ _ _ _ => pts_nil) (fun _ _ _ _ _ => (pe_op op_add (pe_fld (pv 4) rfl) (pe_fld (pv 4) rfl)))) pa_nil)))
    (pss_one (ps_ret (pe_lst (pa_cons (pv 3) (pa_cons (pe_ix ix_list (pe_callF C_baselines (hr.mono (by decide)) (by rfl) (pa_cons (pv 0) (pa_cons (pv 1) (pa_cons (pv 2) pa_nil)))) (pe_un un_neg pe_int) (fun _ _ => rfl)) (pa_cons (pe_fld (pe_ix ix_list (pv 0) (pe_un un_neg pe_int) (fun _ _ => rfl)) rfl) pa_nil))))))))
theorem sc_cut : FnScope ["numbers", "at"] ["numbers"] (defScope s_cut) := ⟨rfl, rfl, rfl, by decide +kernel, rfl, by decide +kernel, by decide +kernel⟩
theorem ok_cut {P : Program} {w : World} {K : PySem.W.Frag} {mg : Str → Option Value} {base : Heap} {t : Adr} {f : Addr} {fd : FuncData} (F : Fun K "cut" "cut" s_cut f fd) (T : Txt K mg t)  : FnOk P w K mg base CX0 1 f fd ["numbers"] (sp_cut K t) := by
  refine F.ok sc_cut (fun vs H Q E h => ?_) (fun cdv A outer s H vs Q E hr h => ⟨rd_cut K t, ?_, rdok_cut T.tx h⟩)
  · obtain ⟨_, _, rfl, _⟩ := h
    rfl
  · exact (pss_one (ps_ret (pe_lc rfl sc_cut.nd (pi_range3 (by rfl) T.range (pa_cons pe_int (pa_cons (pe_callB call_len_seq (by rfl) T.len PySem.boot_len (pa_cons (pv 0) pa_nil)) (pa_cons (pe_gl (by rfl) T.ITEM_SIZE) pa_nil)))) (blkOk_by (own := [("at", 1)]) (by show blkC ["numbers", "at"] (defScope s_cut) _ _ = true; decide +kernel)) (fun _ _ _ _ _ => (pg_name (i := 1) sc_cut.nd rfl (Or.inl rfl))) (fun _ _ _ _ _ => pts_nil) (fun _ _ _ _ _ => (pe_callTy call_tuple_of (by rfl) T.tuple boot_tuple' (pa_cons (pe_slice sl_list (pv 0) (po_some (pv 1)) (po_some (pe_op op_add (pv 1) (pe_gl (by rfl) T.ITEM_SIZE)))) pa_nil))))))
theorem sc_fits : FnScope ["box", "number", "least"] ["box"] (defScope s_fits) := ⟨rfl, rfl, rfl, by decide +kernel, rfl, by decide +kernel, by decide +kernel⟩
theorem ok_fits {P : Program} {w : World} {K : PySem.W.Frag} {mg : Str → Option Value} {base : Heap} {t : Adr} {f : Addr} {fd : FuncData} (F : Fun K "fits" "fits" s_fits f fd) (T : Txt K mg t)  : FnOk P w K mg base CX0 1 f fd ["box"] (sp_fits K t) := by
  refine F.ok sc_fits (fun vs H Q E h => ?_) (fun cdv A outer s H vs Q E hr h => ⟨rd_fits K t, ?_, rdok_fits T.tx h⟩)
  · obtain ⟨_, _, rfl, _⟩ := h
    rfl
  · exact (pss_cons (ps_for PassesOwn.never rfl (pi_zipT (by rfl) T.zip (pa_cons (pv 0) (pa_cons (pe_gl (by rfl) T.LEAST_NUMBERS) pa_nil))) (pg_tup rfl (pgs_cons (pg_name (i := 1) sc_fits.nd rfl (Or.inl rfl)) (pgs_cons (pg_name (i := 2) sc_fits.nd rfl (Or.inl rfl)) pgs_nil)))
      (pss_one (ps_if (pt_not (pt_chain op_le op_le (pv 2) (pv 1) (pe_gl (by rfl) T.MOST_NUMBER)))
        (pss_one (ps_ret pe_bl))
        pss_nil)))
    (pss_one (ps_ret (pe_cmpR op_le (pe_ix ix_tup (pv 0) (pe_gl (by rfl) T.SHRINK) (fun _ _ => rfl)) (pe_ix ix_tup (pv 0) (pe_gl (by rfl) T.SPACE) (fun _ _ => rfl)) (nomark _)))))
theorem sc_numbers_refusal : FnScope ["numbers", "box"] ["numbers"] (defScope s_numbers_refusal) := ⟨rfl, rfl, rfl, by decide +kernel, rfl, by decide +kernel, by decide +kernel⟩
theorem ok_numbers_refusal {P : Program} {w : World} {K : PySem.W.Frag} {mg : Str → Option Value} {base : Heap} {t : Adr} {f : Addr} {fd : FuncData} (F : Fun K "numbers_refusal" "numbers_refusal" s_numbers_refusal f fd) (T : Txt K mg t) (C_cut : Callee P w K mg base 1 "cut" ["numbers"] (sp_cut K t)) (C_fits : Callee P w K mg base 1 "fits" ["box"] (sp_fits K t)) : FnOk P w K mg base CX0 2 f fd ["numbers"] (sp_numbers_refusal K t) := by
  refine F.ok sc_numbers_refusal (fun vs H Q E h => ?_) (fun cdv A outer s H vs Q E hr h => ⟨rd_numbers_refusal K t, ?_, rdok_numbers_refusal T.tx h⟩)
  · obtain ⟨_, _, rfl, _⟩ := h
    rfl
  · exact (pss_cons (ps_if (pt_cmpR op_ne (pe_op op_mod (pe_callB call_len_seq (by rfl) T.len PySem.boot_len (pa_cons (pv 0) pa_nil)) (pe_gl (by rfl) T.ITEM_SIZE)) pe_int (nomark _))
      (pss_one (ps_ret (pe_gl (by rfl) T.WRONG_COUNT)))
      pss_nil)
    (pss_cons (ps_for PassesOwn.never rfl (pi_list (pe_callF C_cut (hr.mono (by decide)) (by rfl) (pa_cons (pv 0) pa_nil))) (pg_name (i := 1) sc_numbers_refusal.nd rfl (Or.inl rfl))
      (pss_one (ps_if (pt_not (pt_truth (pe_callF C_fits (hr.mono (by decide)) (by rfl) (pa_cons (pv 1) pa_nil)) (fun _ => rfl)))
        (pss_one (ps_ret (pe_gl (by rfl) T.WRONG_NUMBER)))
        pss_nil)))
    (pss_one (ps_ret (pe_gl (by rfl) T.DONE)))))
theorem sc_item_refusal : FnScope ["numbers"] ["numbers"] (defScope s_item_refusal) := ⟨rfl, rfl, rfl, by decide +kernel, rfl, by decide +kernel, by decide +kernel⟩
theorem ok_item_refusal {P : Program} {w : World} {K : PySem.W.Frag} {mg : Str → Option Value} {base : Heap} {t : Adr} {f : Addr} {fd : FuncData} (F : Fun K "item_refusal" "item_refusal" s_item_refusal f fd) (T : Txt K mg t) (C_numbers_refusal : Callee P w K mg base 2 "numbers_refusal" ["numbers"] (sp_numbers_refusal K t)) : FnOk P w K mg base CX0 3 f fd ["numbers"] (sp_item_refusal K t) := by
  refine F.ok sc_item_refusal (fun vs H Q E h => ?_) (fun cdv A outer s H vs Q E hr h => ⟨rd_item_refusal K t, ?_, rdok_item_refusal T.tx h⟩)
  · obtain ⟨_, _, rfl, _⟩ := h
    rfl
  · exact (pss_cons (ps_if (pt_cmpR op_ne (pe_callB call_len_seq (by rfl) T.len PySem.boot_len (pa_cons (pv 0) pa_nil)) (pe_gl (by rfl) T.ITEM_SIZE) (nomark _))
      (pss_one (ps_ret (pe_gl (by rfl) T.WRONG_COUNT)))
      pss_nil)
    (pss_one (ps_ret (pe_callF C_numbers_refusal (hr.mono (by decide)) (by rfl) (pa_cons (pv 0) pa_nil)))))
theorem sc_most_wholes : FnScope ["call"] ["call"] (defScope s_most_wholes) := ⟨rfl, rfl, rfl, by decide +kernel, rfl, by decide +kernel, by decide +kernel⟩
theorem ok_most_wholes {P : Program} {w : World} {K : PySem.W.Frag} {mg : Str → Option Value} {base : Heap} {t : Adr} {f : Addr} {fd : FuncData} (F : Fun K "most_wholes" "most_wholes" s_most_wholes f fd) (T : Txt K mg t)  : FnOk P w K mg base CX0 1 f fd ["call"] (sp_most_wholes K t) := by
  refine F.ok sc_most_wholes (fun vs H Q E h => ?_) (fun cdv A outer s H vs Q E hr h => ⟨rd_most_wholes K t, ?_, rdok_most_wholes T.tx h⟩)
  · obtain ⟨_, rfl, _⟩ := h
    rfl
  · exact (pss_cons (ps_if (pt_cmpR op_eq (pv 0) (pe_gl (by rfl) T.PLACES) (nomark _))
      (pss_one (ps_ret (pe_gl (by rfl) T.MOST_OF_PLACES)))
      pss_nil)
    (pss_cons (ps_if (pt_cmpR op_eq (pv 0) (pe_gl (by rfl) T.BOX) (nomark _))
      (pss_one (ps_ret (pe_gl (by rfl) T.MOST_OF_BOX)))
      pss_nil)
    (pss_one (ps_ret (pe_gl (by rfl) T.MOST_OF_MEASURE)))))
theorem sc_in_range : FnScope ["wholes", "mosts", "number", "most"] ["wholes", "mosts"] (defScope s_in_range) := ⟨rfl, rfl, rfl, by decide +kernel, rfl, by decide +kernel, by decide +kernel⟩
theorem ok_in_range {P : Program} {w : World} {K : PySem.W.Frag} {mg : Str → Option Value} {base : Heap} {t : Adr} {f : Addr} {fd : FuncData} (F : Fun K "in_range" "in_range" s_in_range f fd) (T : Txt K mg t)  : FnOk P w K mg base CX0 1 f fd ["wholes", "mosts"] (sp_in_range K t) := by
  refine F.ok sc_in_range (fun vs H Q E h => ?_) (fun cdv A outer s H vs Q E hr h => ⟨rd_in_range K t, ?_, rdok_in_range T.tx h⟩)
  · obtain ⟨_, _, _, _, rfl, _⟩ := h
    rfl
  · exact (pss_cons (ps_for PassesOwn.never rfl (pi_zipLT (by rfl) T.zip (pa_cons (pv 0) (pa_cons (pv 1) pa_nil))) (pg_tup rfl (pgs_cons (pg_name (i := 2) sc_in_range.nd rfl (Or.inl rfl)) (pgs_cons (pg_name (i := 3) sc_in_range.nd rfl (Or.inl rfl)) pgs_nil)))
      (pss_one (ps_if (pt_not (pt_chain op_le op_le pe_int (pv 2) (pv 3)))
        (pss_one (ps_ret pe_bl))
        pss_nil)))
    (pss_one (ps_ret pe_bl)))
theorem sc_add : FnScope ["boxes", "numbers", "refusal"] ["boxes", "numbers"] (defScope s_add) := ⟨rfl, rfl, rfl, by decide +kernel, rfl, by decide +kernel, by decide +kernel⟩
theorem ok_add {P : Program} {w : World} {K : PySem.W.Frag} {mg : Str → Option Value} {base : Heap} {t : Adr} {f : Addr} {fd : FuncData} (F : Fun K "add" "add" s_add f fd) (T : Txt K mg t) (C_numbers_refusal : Callee P w K mg base 2 "numbers_refusal" ["numbers"] (sp_numbers_refusal K t)) (C_cut : Callee P w K mg base 1 "cut" ["numbers"] (sp_cut K t)) : FnOk P w K mg base CX0 3 f fd ["boxes", "numbers"] (sp_add K t) := by
  refine F.ok sc_add (fun vs H Q E h => ?_) (fun cdv A outer s H vs Q E hr h => ⟨rd_add K t, ?_, rdok_add T.tx h⟩)
  · obtain ⟨_, _, _, _, rfl, _⟩ := h
    rfl
  · exact (pss_cons (ps_set (i := 2) sc_add.nd rfl (Or.inl rfl) (pe_callF C_numbers_refusal (hr.mono (by decide)) (by rfl) (pa_cons (pv 1) pa_nil)))
    (pss_cons (ps_if (pt_cmpR op_ne (pv 2) (pe_gl (by rfl) T.DONE) (nomark _))
      (pss_one (ps_ret (pe_lst (pa_cons (pv 2) pa_nil))))
      pss_nil)
    (pss_cons (ps_if (pt_cmpR op_gt (pe_op op_add (pe_callB call_len_seq (by rfl) T.len PySem.boot_len (pa_cons (pv 0) pa_nil)) (pe_op op_fdivB (pe_callB call_len_seq (by rfl) T.len PySem.boot_len (pa_cons (pv 1) pa_nil)) (pe_gl (by rfl) T.ITEM_SIZE))) (pe_gl (by rfl) T.MOST_ITEMS) (nomark _))
      (pss_one (ps_ret (pe_lst (pa_cons (pe_gl (by rfl) T.TOO_MANY) pa_nil))))
      pss_nil)
    (pss_cons (ps_expr (pe_bm PySem.F.plainAttrs_list PySem.F.slot_list_extend PySem.F.type_list_extend mt_extend (pv 0) (pa_cons (pe_callF C_cut (hr.mono (by decide)) (by rfl) (pa_cons (pv 1) pa_nil)) pa_nil)))
    (pss_one (ps_ret (pe_lst (pa_cons (pe_gl (by rfl) T.DONE) pa_nil))))))))
theorem sc_put : FnScope ["boxes", "i", "numbers", "refusal"] ["boxes", "i", "numbers"] (defScope s_put) := ⟨rfl, rfl, rfl, by decide +kernel, rfl, by decide +kernel, by decide +kernel⟩
theorem ok_put {P : Program} {w : World} {K : PySem.W.Frag} {mg : Str → Option Value} {base : Heap} {t : Adr} {f : Addr} {fd : FuncData} (F : Fun K "put" "put" s_put f fd) (T : Txt K mg t) (C_item_refusal : Callee P w K mg base 3 "item_refusal" ["numbers"] (sp_item_refusal K t)) : FnOk P w K mg base CX0 4 f fd ["boxes", "i", "numbers"] (sp_put K t) := by
  refine F.ok sc_put (fun vs H Q E h => ?_) (fun cdv A outer s H vs Q E hr h => ⟨rd_put K t, ?_, rdok_put T.tx h⟩)
  · obtain ⟨_, _, _, _, _, rfl, _⟩ := h
    rfl
  · exact (pss_cons (ps_if (pt_not (pt_chain op_le op_le pe_int (pv 1) (pe_callB call_len_seq (by rfl) T.len PySem.boot_len (pa_cons (pv 0) pa_nil))))
      (pss_one (ps_ret (pe_lst (pa_cons (pe_gl (by rfl) T.NO_ITEM) pa_nil))))
      pss_nil)
    (pss_cons (ps_set (i := 3) sc_put.nd rfl (Or.inl rfl) (pe_callF C_item_refusal (hr.mono (by decide)) (by rfl) (pa_cons (pv 2) pa_nil)))
    (pss_cons (ps_if (pt_cmpR op_ne (pv 3) (pe_gl (by rfl) T.DONE) (nomark _))
      (pss_one (ps_ret (pe_lst (pa_cons (pv 3) pa_nil))))
      pss_nil)
    (pss_cons (ps_if (pt_cmpR op_ge (pe_callB call_len_seq (by rfl) T.len PySem.boot_len (pa_cons (pv 0) pa_nil)) (pe_gl (by rfl) T.MOST_ITEMS) (nomark _))
      (pss_one (ps_ret (pe_lst (pa_cons (pe_gl (by rfl) T.TOO_MANY) pa_nil))))
      pss_nil)
    (pss_cons (ps_expr (pe_bm PySem.F.plainAttrs_list PySem.F.slot_list_insert PySem.F.type_list_insert mt_insert (pv 0) (pa_cons (pv 1) (pa_cons (pe_callTy call_tuple_of (by rfl) T.tuple boot_tuple' (pa_cons (pv 2) pa_nil)) pa_nil))))
    (pss_one (ps_ret (pe_lst (pa_cons (pe_gl (by rfl) T.DONE) pa_nil)))))))))
theorem sc_change : FnScope ["boxes", "i", "numbers", "refusal"] ["boxes", "i", "numbers"] (defScope s_change) := ⟨rfl, rfl, rfl, by decide +kernel, rfl, by decide +kernel, by decide +kernel⟩
theorem ok_change {P : Program} {w : World} {K : PySem.W.Frag} {mg : Str → Option Value} {base : Heap} {t : Adr} {f : Addr} {fd : FuncData} (F : Fun K "change" "change" s_change f fd) (T : Txt K mg t) (C_item_refusal : Callee P w K mg base 3 "item_refusal" ["numbers"] (sp_item_refusal K t)) : FnOk P w K mg base CX0 4 f fd ["boxes", "i", "numbers"] (sp_change K t) := by
  refine F.ok sc_change (fun vs H Q E h => ?_) (fun cdv A outer s H vs Q E hr h => ⟨rd_change K t, ?_, rdok_change T.tx h⟩)
  · obtain ⟨_, _, _, _, _, rfl, _⟩ := h
    rfl
  · exact (pss_cons (ps_if (pt_not (pt_chain op_le op_lt pe_int (pv 1) (pe_callB call_len_seq (by rfl) T.len PySem.boot_len (pa_cons (pv 0) pa_nil))))
      (pss_one (ps_ret (pe_lst (pa_cons (pe_gl (by rfl) T.NO_ITEM) pa_nil))))
      pss_nil)
    (pss_cons (ps_set (i := 3) sc_change.nd rfl (Or.inl rfl) (pe_callF C_item_refusal (hr.mono (by decide)) (by rfl) (pa_cons (pv 2) pa_nil)))
    (pss_cons (ps_if (pt_cmpR op_ne (pv 3) (pe_gl (by rfl) T.DONE) (nomark _))
      (pss_one (ps_ret (pe_lst (pa_cons (pv 3) pa_nil))))
      pss_nil)
    (pss_cons (ps_asg (pe_callTy call_tuple_of (by rfl) T.tuple boot_tuple' (pa_cons (pv 2) pa_nil)) (pg_sub (pv 0) (pv 1) set_list))
    (pss_one (ps_ret (pe_lst (pa_cons (pe_gl (by rfl) T.DONE) pa_nil))))))))
theorem sc_take : FnScope ["boxes", "i"] ["boxes", "i"] (defScope s_take) := ⟨rfl, rfl, rfl, by decide +kernel, rfl, by decide +kernel, by decide +kernel⟩
theorem ok_take {P : Program} {w : World} {K : PySem.W.Frag} {mg : Str → Option Value} {base : Heap} {t : Adr} {f : Addr} {fd : FuncData} (F : Fun K "take" "take" s_take f fd) (T : Txt K mg t)  : FnOk P w K mg base CX0 1 f fd ["boxes", "i"] (sp_take K t) := by
  refine F.ok sc_take (fun vs H Q E h => ?_) (fun cdv A outer s H vs Q E hr h => ⟨rd_take K t, ?_, rdok_take T.tx h⟩)
  · obtain ⟨_, _, _, rfl, _⟩ := h
    rfl
  · exact (pss_cons (ps_if (pt_not (pt_chain op_le op_lt pe_int (pv 1) (pe_callB call_len_seq (by rfl) T.len PySem.boot_len (pa_cons (pv 0) pa_nil))))
      (pss_one (ps_ret (pe_lst (pa_cons (pe_gl (by rfl) T.NO_ITEM) pa_nil))))
      pss_nil)
    (pss_cons (ps_expr (pe_bm PySem.F.plainAttrs_list PySem.F.slot_list_pop PySem.F.type_list_pop mt_popAt (pv 0) (pa_cons (pv 1) pa_nil)))
    (pss_one (ps_ret (pe_lst (pa_cons (pe_gl (by rfl) T.DONE) pa_nil))))))
theorem sc_row : FnScope ["boxes", "found", "box"] ["boxes"] (defScope s_row) := ⟨rfl, rfl, rfl, by decide +kernel, rfl, by decide +kernel, by decide +kernel⟩
theorem ok_row {P : Program} {w : World} {K : PySem.W.Frag} {mg : Str → Option Value} {base : Heap} {t : Adr} {f : Addr} {fd : FuncData} (F : Fun K "row" "row" s_row f fd) (T : Txt K mg t)  : FnOk P w K mg base CX0 1 f fd ["boxes"] (sp_row K t) := by
  refine F.ok sc_row (fun vs H Q E h => ?_) (fun cdv A outer s H vs Q E hr h => ⟨rd_row K t, ?_, rdok_row T.tx h⟩)
  · obtain ⟨_, _, rfl, _⟩ := h
    rfl
  · exact (pss_cons (ps_set (i := 1) sc_row.nd rfl (Or.inl rfl) (pe_lst (pa_cons (pe_gl (by rfl) T.DONE) pa_nil)))
    (pss_cons (ps_for PassesOwn.never rfl (pi_list (pv 0)) (pg_name (i := 2) sc_row.nd rfl (Or.inl rfl))
      (pss_one (ps_expr (pe_bm PySem.F.plainAttrs_list PySem.F.slot_list_extend PySem.F.type_list_extend mt_extendT (pv 1) (pa_cons (pv 2) pa_nil)))))
    (pss_one (ps_ret (pv 1)))))
theorem sc_judge : FnScope ["boxes", "measure", "ends"] ["boxes", "measure", "ends"] (defScope s_judge) := ⟨rfl, rfl, rfl, by decide +kernel, rfl, by decide +kernel, by decide +kernel⟩
theorem ok_judge {P : Program} {w : World} {K : PySem.W.Frag} {mg : Str → Option Value} {base : Heap} {t : Adr} {f : Addr} {fd : FuncData} (F : Fun K "judge" "judge" s_judge f fd) (T : Txt K mg t) (C_is_breaking : Callee P w K mg base 2 "is_breaking" ["boxes", "ends"] (sp_is_breaking K t)) (C_totals : Callee P w K mg base 1 "totals" ["lines"] (sp_totals K t)) (C_set_lines : Callee P w K mg base 5 "set_lines" ["boxes", "ends", "measure"] (sp_set_lines K t)) : FnOk P w K mg base CX0 6 f fd ["boxes", "measure", "ends"] (sp_judge K t) := by
  refine F.ok sc_judge (fun vs H Q E h => ?_) (fun cdv A outer s H vs Q E hr h => ⟨rd_judge K t, ?_, rdok_judge T.tx h⟩)
  · obtain ⟨_, _, _, _, _, _, rfl, _⟩ := h
    rfl
  · exact (pss_cons (ps_if (pt_not (pt_truth (pe_callF C_is_breaking (hr.mono (by decide)) (by rfl) (pa_cons (pv 0) (pa_cons (pv 2) pa_nil))) (fun _ => rfl)))
      (pss_one (ps_ret (pe_lst (pa_cons (pe_gl (by rfl) T.NO_BREAKING) pa_nil))))
      pss_nil)
    (pss_one (ps_ret (pe_op op_cat (pe_lst (pa_cons (pe_gl (by rfl) T.DONE) pa_nil)) (pe_callF C_totals (hr.mono (by decide)) (by rfl) (pa_cons (pe_callF C_set_lines (hr.mono (by decide)) (by rfl) (pa_cons (pv 0) (pa_cons (pv 2) (pa_cons (pv 1) pa_nil)))) pa_nil))))))
theorem sc_answer_with_measure : FnScope ["boxes", "call", "wholes", "numbers", "measure", "ends", "best_lines"] ["boxes", "call", "wholes", "numbers"] (defScope s_answer_with_measure) := ⟨rfl, rfl, rfl, by decide +kernel, rfl, by decide +kernel, by decide +kernel⟩
theorem ok_answer_with_measure {P : Program} {w : World} {K : PySem.W.Frag} {mg : Str → Option Value} {base : Heap} {t : Adr} {f : Addr} {fd : FuncData} (F : Fun K "answer_with_measure" "answer_with_measure" s_answer_with_measure f fd) (T : Txt K mg t) (C_Measure : Maker P w K mg base 1 "Measure" t.Measure ["self", "width", "first", "indent"] (sp_Measure K t)) (C_best_breaking : Callee P w K mg base 3 "best_breaking" ["boxes", "measure"] (sp_best_breaking K t)) (C_set_lines : Callee P w K mg base 5 "set_lines" ["boxes", "ends", "measure"] (sp_set_lines K t)) (C_in_range : Callee P w K mg base 1 "in_range" ["wholes", "mosts"] (sp_in_range K t)) (C_judge : Callee P w K mg base 6 "judge" ["boxes", "measure", "ends"] (sp_judge K t)) (C_outer_box : Callee P w K mg base 2 "outer_box" ["lines", "lead", "gap"] (sp_outer_box K t)) (C_most_wholes : Callee P w K mg base 1 "most_wholes" ["call"] (sp_most_wholes K t)) (C_greedy_breaking : Callee P w K mg base 3 "greedy_breaking" ["boxes", "measure"] (sp_greedy_breaking K t)) (C_totals : Callee P w K mg base 1 "totals" ["lines"] (sp_totals K t)) (C_line_numbers : Callee P w K mg base 1 "line_numbers" ["lines"] (sp_line_numbers K t)) (C_item_places : Callee P w K mg base 3 "item_places" ["boxes", "lines", "even", "lead", "gap"] (sp_item_places K t)) : FnOk P w K mg base CX0 7 f fd ["boxes", "call", "wholes", "numbers"] (sp_answer_with_measure K t) := by
  refine F.ok sc_answer_with_measure (fun vs H Q E h => ?_) (fun cdv A outer s H vs Q E hr h => ⟨rd_answer_with_measure K t, ?_, rdok_answer_with_measure T.tx h⟩)
  · obtain ⟨_, _, _, _, _, _, _, _, rfl, _⟩ := h
    rfl
  · exact (pss_cons (ps_if (pt_not (pt_truth (pe_callF C_in_range (hr.mono (by decide)) (by rfl) (pa_cons (pv 2) (pa_cons (pe_callF C_most_wholes (hr.mono (by decide)) (by rfl) (pa_cons (pv 1) pa_nil)) pa_nil))) (fun _ => rfl)))
      (pss_one (ps_ret (pe_lst (pa_cons (pe_gl (by rfl) T.WRONG_MEASURE) pa_nil))))
      pss_nil)
    (pss_cons (ps_set (i := 4) sc_answer_with_measure.nd rfl (Or.inl rfl) (pe_makeF C_Measure (hr.mono (by decide)) (by rfl) (pa_cons (pe_ix ix_list (pv 2) pe_int (fun _ _ => rfl)) (pa_cons (pe_ix ix_list (pv 2) pe_int (fun _ _ => rfl)) (pa_cons (pe_ix ix_list (pv 2) pe_int (fun _ _ => rfl)) pa_nil)))))
    (pss_cons (ps_if (pt_cmpR op_eq (pv 1) (pe_gl (by rfl) T.JUDGE) (nomark _))
      (pss_one (ps_ret (pe_callF C_judge (hr.mono (by decide)) (by rfl) (pa_cons (pv 0) (pa_cons (pv 4) (pa_cons (pv 3) pa_nil))))))
      pss_nil)
    (pss_cons (ps_if (pt_cmpR op_eq (pv 1) (pe_gl (by rfl) T.GREEDY) (nomark _))
      (pss_one (ps_ret (pe_op op_cat (pe_lst (pa_cons (pe_gl (by rfl) T.DONE) pa_nil)) (pe_callF C_greedy_breaking (hr.mono (by decide)) (by rfl) (pa_cons (pv 0) (pa_cons (pv 4) pa_nil))))))
      pss_nil)
    (pss_cons (ps_set (i := 5) sc_answer_with_measure.nd rfl (Or.inl rfl) (pe_callF C_best_breaking (hr.mono (by decide)) (by rfl) (pa_cons (pv 0) (pa_cons (pv 4) pa_nil))))
    (pss_cons (ps_if (pt_cmpR op_eq (pv 1) (pe_gl (by rfl) T.BEST) (nomark _))
      (pss_one (ps_ret (pe_op op_cat (pe_lst (pa_cons (pe_gl (by rfl) T.DONE) pa_nil)) (pv 5))))
      pss_nil)
    (pss_cons (ps_set (i := 6) sc_answer_with_measure.nd rfl (Or.inl rfl) (pe_callF C_set_lines (hr.mono (by decide)) (by rfl) (pa_cons (pv 0) (pa_cons (pv 5) (pa_cons (pv 4) pa_nil)))))
    (pss_cons (ps_if (pt_cmpR op_eq (pv 1) (pe_gl (by rfl) T.WORTH) (nomark _))
      (pss_one (ps_ret (pe_op op_cat (pe_lst (pa_cons (pe_gl (by rfl) T.DONE) pa_nil)) (pe_callF C_totals (hr.mono (by decide)) (by rfl) (pa_cons (pv 6) pa_nil)))))
      pss_nil)
    (pss_cons (ps_if (pt_cmpR op_eq (pv 1) (pe_gl (by rfl) T.LINES) (nomark _))
      (pss_one (ps_ret (pe_op op_cat (pe_lst (pa_cons (pe_gl (by rfl) T.DONE) pa_nil)) (pe_callF C_line_numbers (hr.mono (by decide)) (by rfl) (pa_cons (pv 6) pa_nil)))))
      pss_nil)
    (pss_cons (ps_if (pt_cmpR op_eq (pv 1) (pe_gl (by rfl) T.PLACES) (nomark _))
      (pss_one (ps_ret (pe_op op_cat (pe_lst (pa_cons (pe_gl (by rfl) T.DONE) pa_nil)) (pe_callF C_item_places (hr.mono (by decide)) (by rfl) (pa_cons (pv 0) (pa_cons (pv 6) (pa_cons (pe_ix ix_list (pv 2) pe_int (fun _ _ => rfl)) (pa_cons (pe_ix ix_list (pv 2) pe_int (fun _ _ => rfl)) (pa_cons (pe_ix ix_list (pv 2) pe_int (fun _ _ => rfl)) pa_nil)))))))))
      pss_nil)
    (pss_one (ps_ret (pe_op op_cat (pe_lst (pa_cons (pe_gl (by rfl) T.DONE) pa_nil)) (pe_callF C_outer_box (hr.mono (by decide)) (by rfl) (pa_cons (pv 6) (pa_cons (pe_ix ix_list (pv 2) pe_int (fun _ _ => rfl)) (pa_cons (pe_ix ix_list (pv 2) pe_int (fun _ _ => rfl)) pa_nil)))))))))))))))))
theorem sc_answer : FnScope ["boxes", "call", "wholes", "numbers"] ["boxes", "call", "wholes", "numbers"] (defScope s_answer) := ⟨rfl, rfl, rfl, by decide +kernel, rfl, by decide +kernel, by decide +kernel⟩
theorem ok_answer {P : Program} {w : World} {K : PySem.W.Frag} {mg : Str → Option Value} {base : Heap} {t : Adr} {f : Addr} {fd : FuncData} (F : Fun K "answer" "answer" s_answer f fd) (T : Txt K mg t) (C_answer_with_measure : Callee P w K mg base 7 "answer_with_measure" ["boxes", "call", "wholes", "numbers"] (sp_answer_with_measure K t)) (C_add : Callee P w K mg base 3 "add" ["boxes", "numbers"] (sp_add K t)) (C_put : Callee P w K mg base 4 "put" ["boxes", "i", "numbers"] (sp_put K t)) (C_change : Callee P w K mg base 4 "change" ["boxes", "i", "numbers"] (sp_change K t)) (C_take : Callee P w K mg base 1 "take" ["boxes", "i"] (sp_take K t)) (C_row : Callee P w K mg base 1 "row" ["boxes"] (sp_row K t)) (C_natural_width : Callee P w K mg base 3 "natural_width" ["boxes"] (sp_natural_width K t)) (C_narrowest_measure : Callee P w K mg base 3 "narrowest_measure" ["boxes"] (sp_narrowest_measure K t)) : FnOk P w K mg base CX0 8 f fd ["boxes", "call", "wholes", "numbers"] (sp_answer K t) := by
  refine F.ok sc_answer (fun vs H Q E h => ?_) (fun cdv A outer s H vs Q E hr h => ⟨rd_answer K t, ?_, rdok_answer T.tx h⟩)
  · obtain ⟨_, _, _, _, _, _, _, _, rfl, _⟩ := h
    rfl
  · exact (pss_cons (ps_if (pt_cmpR op_eq (pv 1) (pe_gl (by rfl) T.ADD) (nomark _))
      (pss_one (ps_ret (pe_callF C_add (hr.mono (by decide)) (by rfl) (pa_cons (pv 0) (pa_cons (pv 3) pa_nil)))))
      pss_nil)
    (pss_cons (ps_if (pt_cmpR op_eq (pv 1) (pe_gl (by rfl) T.PUT) (nomark _))
      (pss_one (ps_ret (pe_callF C_put (hr.mono (by decide)) (by rfl) (pa_cons (pv 0) (pa_cons (pe_ix ix_list (pv 2) pe_int (fun _ _ => rfl)) (pa_cons (pv 3) pa_nil))))))
      pss_nil)
    (pss_cons (ps_if (pt_cmpR op_eq (pv 1) (pe_gl (by rfl) T.CHANGE) (nomark _))
      (pss_one (ps_ret (pe_callF C_change (hr.mono (by decide)) (by rfl) (pa_cons (pv 0) (pa_cons (pe_ix ix_list (pv 2) pe_int (fun _ _ => rfl)) (pa_cons (pv 3) pa_nil))))))
      pss_nil)
    (pss_cons (ps_if (pt_cmpR op_eq (pv 1) (pe_gl (by rfl) T.TAKE) (nomark _))
      (pss_one (ps_ret (pe_callF C_take (hr.mono (by decide)) (by rfl) (pa_cons (pv 0) (pa_cons (pe_ix ix_list (pv 2) pe_int (fun _ _ => rfl)) pa_nil)))))
      pss_nil)
    (pss_cons (ps_if (pt_cmpR op_eq (pv 1) (pe_gl (by rfl) T.ROW) (nomark _))
      (pss_one (ps_ret (pe_callF C_row (hr.mono (by decide)) (by rfl) (pa_cons (pv 0) pa_nil))))
      pss_nil)
    (pss_cons (ps_if (pt_cmpR op_eq (pv 1) (pe_gl (by rfl) T.NATURAL) (nomark _))
      (pss_one (ps_ret (pe_lst (pa_cons (pe_gl (by rfl) T.DONE) (pa_cons (pe_callF C_natural_width (hr.mono (by decide)) (by rfl) (pa_cons (pv 0) pa_nil)) pa_nil)))))
      pss_nil)
    (pss_cons (ps_if (pt_cmpR op_eq (pv 1) (pe_gl (by rfl) T.NARROWEST) (nomark _))
      (pss_one (ps_ret (pe_lst (pa_cons (pe_gl (by rfl) T.DONE) (pa_cons (pe_callF C_narrowest_measure (hr.mono (by decide)) (by rfl) (pa_cons (pv 0) pa_nil)) pa_nil)))))
      pss_nil)
    (pss_one (ps_ret (pe_callF C_answer_with_measure (hr.mono (by decide)) (by rfl) (pa_cons (pv 0) (pa_cons (pv 1) (pa_cons (pv 2) (pa_cons (pv 3) pa_nil))))))))))))))
theorem sc_answers : FnScope ["calls", "boxes", "told", "at", "call", "list_at", "wholes", "numbers", "found"] ["calls"] (defScope s_answers) := ⟨rfl, rfl, rfl, by decide +kernel, rfl, by decide +kernel, by decide +kernel⟩
theorem ok_answers {P : Program} {w : World} {K : PySem.W.Frag} {mg : Str → Option Value} {base : Heap} {t : Adr} {f : Addr} {fd : FuncData} (F : Fun K "answers" "answers" s_answers f fd) (T : Txt K mg t) (C_answer : Callee P w K mg base 8 "answer" ["boxes", "call", "wholes", "numbers"] (sp_answer K t)) : FnOk P w K mg base CX0 9 f fd ["calls"] (sp_answers K) := by
  refine F.ok sc_answers (fun vs H Q E h => ?_) (fun cdv A outer s H vs Q E hr h => ⟨rd_answers K t, ?_, rdok_answers T.tx h⟩)
  · obtain ⟨_, _, rfl, _⟩ := h
    rfl
  · exact (pss_cons (ps_set (i := 1) sc_answers.nd rfl (Or.inl rfl) (pe_lst pa_nil))
    (pss_cons (ps_set (i := 2) sc_answers.nd rfl (Or.inl rfl) (pe_lst pa_nil))
    (pss_cons (ps_set (i := 3) sc_answers.nd rfl (Or.inl rfl) pe_int)
    (pss_cons (ps_while PassesOwn.never (pt_cmpR op_lt (pv 3) (pe_callB call_len_seq (by rfl) T.len PySem.boot_len (pa_cons (pv 0) pa_nil)) (nomark _))
      (pss_cons (ps_set (i := 4) sc_answers.nd rfl (Or.inl rfl) (pe_ix ix_list (pv 0) (pv 3) (fun _ _ => rfl)))
      (pss_cons (ps_set (i := 5) sc_answers.nd rfl (Or.inl rfl) (pe_op op_add (pe_op op_add (pv 3) pe_int) (pe_ix ix_tup (pe_gl (by rfl) T.WHOLE_COUNTS) (pv 4) (fun _ _ => rfl))))
      (pss_cons (ps_set (i := 6) sc_answers.nd rfl (Or.inl rfl) (pe_slice sl_list (pv 0) (po_some (pe_op op_add (pv 3) pe_int)) (po_some (pv 5))))
      (pss_cons (ps_set (i := 7) sc_answers.nd rfl (Or.inl rfl) (pe_lst pa_nil))
      (pss_cons (ps_set (i := 3) sc_answers.nd rfl (Or.inl rfl) (pv 5))
      (pss_cons (ps_if (pt_truth (pe_ix ix_tup (pe_gl (by rfl) T.HAS_LIST) (pv 4) (fun _ _ => rfl)) (fun _ => rfl))
        (pss_cons (ps_set (i := 3) sc_answers.nd rfl (Or.inl rfl) (pe_op op_add (pe_op op_add (pv 5) pe_int) (pe_ix ix_list (pv 0) (pv 5) (fun _ _ => rfl))))
        (pss_one (ps_set (i := 7) sc_answers.nd rfl (Or.inl rfl) (pe_slice sl_list (pv 0) (po_some (pe_op op_add (pv 5) pe_int)) (po_some (pv 3))))))
        pss_nil)
      (pss_cons (ps_set (i := 8) sc_answers.nd rfl (Or.inl rfl) (pe_callF C_answer (hr.mono (by decide)) (by rfl) (pa_cons (pv 1) (pa_cons (pv 4) (pa_cons (pv 6) (pa_cons (pv 7) pa_nil))))))
      (pss_cons (ps_expr (pe_bm PySem.F.plainAttrs_list PySem.F.slot_list_append PySem.F.type_list_append mt_append (pv 2) (pa_cons (pe_callB call_len_seq (by rfl) T.len PySem.boot_len (pa_cons (pv 8) pa_nil)) pa_nil)))
      (pss_one (ps_expr (pe_bm PySem.F.plainAttrs_list PySem.F.slot_list_extend PySem.F.type_list_extend mt_extend (pv 2) (pa_cons (pv 8) pa_nil)))))))))))))
    (pss_one (ps_ret (pv 2)))))))
set_option maxHeartbeats 0 in
theorem all_mk {P : Program} {w : World} {K : PySem.W.Frag} {h : Heap} {mg : Str → Option Value} {fa : Addr} (X : K.In h) (G : h.Ns mainGlobals mg) (hfa : mg "answers" = some (.ref fa))
    {C_Edges : Addr} {C_Line : Addr} {C_Measure : Addr} {k_WIDTH : Tok} {k_HEIGHT : Tok} {k_DEPTH : Tok} {k_SPACE : Tok} {k_STRETCH : Tok} {k_SHRINK : Tok} {k_COST : Tok} {k_NO_BREAK : Tok} {k_LINE_UNIT : Tok} {k_COST_UNIT : Tok} {k_OVERFULL_UNIT : Tok} {k_HEAVIEST : Tok} {k_ITEM_SIZE : Tok} {k_MOST_ITEMS : Tok} {A_LEAST_NUMBERS : Addr} {o_LEAST_NUMBERS : Obj} {i_LEAST_NUMBERS : Array Value} {n_LEAST_NUMBERS : Nat} {k_MOST_NUMBER : Tok} {k_DONE : Tok} {k_WRONG_COUNT : Tok} {k_WRONG_NUMBER : Tok} {k_TOO_MANY : Tok} {k_WRONG_MEASURE : Tok} {k_NO_ITEM : Tok} {k_NO_BREAKING : Tok} {k_ADD : Tok} {k_PUT : Tok} {k_CHANGE : Tok} {k_TAKE : Tok} {k_ROW : Tok} {k_BEST : Tok} {k_WORTH : Tok} {k_JUDGE : Tok} {k_GREEDY : Tok} {k_LINES : Tok} {k_PLACES : Tok} {k_BOX : Tok} {k_NATURAL : Tok} {k_NARROWEST : Tok} {A_WHOLE_COUNTS : Addr} {o_WHOLE_COUNTS : Obj} {i_WHOLE_COUNTS : Array Value} {n_WHOLE_COUNTS : Nat} {A_HAS_LIST : Addr} {o_HAS_LIST : Obj} {i_HAS_LIST : Array Value} {n_HAS_LIST : Nat} {A_MOST_OF_MEASURE : Addr} {o_MOST_OF_MEASURE : Obj} {i_MOST_OF_MEASURE : Array Value} {n_MOST_OF_MEASURE : Nat} {A_MOST_OF_PLACES : Addr} {o_MOST_OF_PLACES : Obj} {i_MOST_OF_PLACES : Array Value} {n_MOST_OF_PLACES : Nat} {A_MOST_OF_BOX : Addr} {o_MOST_OF_BOX : Obj} {i_MOST_OF_BOX : Array Value} {n_MOST_OF_BOX : Nat} {f_Measure_init : Addr} {od_Measure_init an_Measure_init : Option Addr} {sl_Measure_init : Array (Option Value)} {oc_Measure_init kV_Measure_init dc_Measure_init pm_Measure_init cd_Measure_init ct_Measure_init : Value} {f_Edges_init : Addr} {od_Edges_init an_Edges_init : Option Addr} {sl_Edges_init : Array (Option Value)} {oc_Edges_init kV_Edges_init dc_Edges_init pm_Edges_init cd_Edges_init ct_Edges_init : Value} {f_follow : Addr} {od_follow an_follow : Option Addr} {sl_follow : Array (Option Value)} {oc_follow kV_follow dc_follow pm_follow cd_follow ct_follow : Value} {f_best_line : Addr} {od_best_line an_best_line : Option Addr} {sl_best_line : Array (Option Value)} {oc_best_line kV_best_line dc_best_line pm_best_line cd_best_line ct_best_line : Value} {f_may_end : Addr} {od_may_end an_may_end : Option Addr} {sl_may_end : Array (Option Value)} {oc_may_end kV_may_end dc_may_end pm_may_end cd_may_end ct_may_end : Value} {f_Measure_indent_at : Addr} {od_Measure_indent_at an_Measure_indent_at : Option Addr} {sl_Measure_indent_at : Array (Option Value)} {oc_Measure_indent_at kV_Measure_indent_at dc_Measure_indent_at pm_Measure_indent_at cd_Measure_indent_at ct_Measure_indent_at : Value} {f_Measure_room_at : Addr} {od_Measure_room_at an_Measure_room_at : Option Addr} {sl_Measure_room_at : Array (Option Value)} {oc_Measure_room_at kV_Measure_room_at dc_Measure_room_at pm_Measure_room_at cd_Measure_room_at ct_Measure_room_at : Value} {f_best_breaking : Addr} {od_best_breaking an_best_breaking : Option Addr} {sl_best_breaking : Array (Option Value)} {oc_best_breaking kV_best_breaking dc_best_breaking pm_best_breaking cd_best_breaking ct_best_breaking : Value} {f_Line_init : Addr} {od_Line_init an_Line_init : Option Addr} {sl_Line_init : Array (Option Value)} {oc_Line_init kV_Line_init dc_Line_init pm_Line_init cd_Line_init ct_Line_init : Value} {f_set_lines : Addr} {od_set_lines an_set_lines : Option Addr} {sl_set_lines : Array (Option Value)} {oc_set_lines kV_set_lines dc_set_lines pm_set_lines cd_set_lines ct_set_lines : Value} {f_in_range : Addr} {od_in_range an_in_range : Option Addr} {sl_in_range : Array (Option Value)} {oc_in_range kV_in_range dc_in_range pm_in_range cd_in_range ct_in_range : Value} {f_is_breaking : Addr} {od_is_breaking an_is_breaking : Option Addr} {sl_is_breaking : Array (Option Value)} {oc_is_breaking kV_is_breaking dc_is_breaking pm_is_breaking cd_is_breaking ct_is_breaking : Value} {f_totals : Addr} {od_totals an_totals : Option Addr} {sl_totals : Array (Option Value)} {oc_totals kV_totals dc_totals pm_totals cd_totals ct_totals : Value} {f_judge : Addr} {od_judge an_judge : Option Addr} {sl_judge : Array (Option Value)} {oc_judge kV_judge dc_judge pm_judge cd_judge ct_judge : Value} {f_baselines : Addr} {od_baselines an_baselines : Option Addr} {sl_baselines : Array (Option Value)} {oc_baselines kV_baselines dc_baselines pm_baselines cd_baselines ct_baselines : Value} {f_outer_box : Addr} {od_outer_box an_outer_box : Option Addr} {sl_outer_box : Array (Option Value)} {oc_outer_box kV_outer_box dc_outer_box pm_outer_box cd_outer_box ct_outer_box : Value} {f_most_wholes : Addr} {od_most_wholes an_most_wholes : Option Addr} {sl_most_wholes : Array (Option Value)} {oc_most_wholes kV_most_wholes dc_most_wholes pm_most_wholes cd_most_wholes ct_most_wholes : Value} {f_greedy_line : Addr} {od_greedy_line an_greedy_line : Option Addr} {sl_greedy_line : Array (Option Value)} {oc_greedy_line kV_greedy_line dc_greedy_line pm_greedy_line cd_greedy_line ct_greedy_line : Value} {f_greedy_breaking : Addr} {od_greedy_breaking an_greedy_breaking : Option Addr} {sl_greedy_breaking : Array (Option Value)} {oc_greedy_breaking kV_greedy_breaking dc_greedy_breaking pm_greedy_breaking cd_greedy_breaking ct_greedy_breaking : Value} {f_line_numbers : Addr} {od_line_numbers an_line_numbers : Option Addr} {sl_line_numbers : Array (Option Value)} {oc_line_numbers kV_line_numbers dc_line_numbers pm_line_numbers cd_line_numbers ct_line_numbers : Value} {f_item_edges : Addr} {od_item_edges an_item_edges : Option Addr} {sl_item_edges : Array (Option Value)} {oc_item_edges kV_item_edges dc_item_edges pm_item_edges cd_item_edges ct_item_edges : Value} {f_shares : Addr} {od_shares an_shares : Option Addr} {sl_shares : Array (Option Value)} {oc_shares kV_shares dc_shares pm_shares cd_shares ct_shares : Value} {f_shifts : Addr} {od_shifts an_shifts : Option Addr} {sl_shifts : Array (Option Value)} {oc_shifts kV_shifts dc_shifts pm_shifts cd_shifts ct_shifts : Value} {f_item_places : Addr} {od_item_places an_item_places : Option Addr} {sl_item_places : Array (Option Value)} {oc_item_places kV_item_places dc_item_places pm_item_places cd_item_places ct_item_places : Value} {f_answer_with_measure : Addr} {od_answer_with_measure an_answer_with_measure : Option Addr} {sl_answer_with_measure : Array (Option Value)} {oc_answer_with_measure kV_answer_with_measure dc_answer_with_measure pm_answer_with_measure cd_answer_with_measure ct_answer_with_measure : Value} {f_cut : Addr} {od_cut an_cut : Option Addr} {sl_cut : Array (Option Value)} {oc_cut kV_cut dc_cut pm_cut cd_cut ct_cut : Value} {f_fits : Addr} {od_fits an_fits : Option Addr} {sl_fits : Array (Option Value)} {oc_fits kV_fits dc_fits pm_fits cd_fits ct_fits : Value} {f_numbers_refusal : Addr} {od_numbers_refusal an_numbers_refusal : Option Addr} {sl_numbers_refusal : Array (Option Value)} {oc_numbers_refusal kV_numbers_refusal dc_numbers_refusal pm_numbers_refusal cd_numbers_refusal ct_numbers_refusal : Value} {f_add : Addr} {od_add an_add : Option Addr} {sl_add : Array (Option Value)} {oc_add kV_add dc_add pm_add cd_add ct_add : Value} {f_item_refusal : Addr} {od_item_refusal an_item_refusal : Option Addr} {sl_item_refusal : Array (Option Value)} {oc_item_refusal kV_item_refusal dc_item_refusal pm_item_refusal cd_item_refusal ct_item_refusal : Value} {f_put : Addr} {od_put an_put : Option Addr} {sl_put : Array (Option Value)} {oc_put kV_put dc_put pm_put cd_put ct_put : Value} {f_change : Addr} {od_change an_change : Option Addr} {sl_change : Array (Option Value)} {oc_change kV_change dc_change pm_change cd_change ct_change : Value} {f_take : Addr} {od_take an_take : Option Addr} {sl_take : Array (Option Value)} {oc_take kV_take dc_take pm_take cd_take ct_take : Value} {f_row : Addr} {od_row an_row : Option Addr} {sl_row : Array (Option Value)} {oc_row kV_row dc_row pm_row cd_row ct_row : Value} {f_natural_width : Addr} {od_natural_width an_natural_width : Option Addr} {sl_natural_width : Array (Option Value)} {oc_natural_width kV_natural_width dc_natural_width pm_natural_width cd_natural_width ct_natural_width : Value} {f_narrowest_measure : Addr} {od_narrowest_measure an_narrowest_measure : Option Addr} {sl_narrowest_measure : Array (Option Value)} {oc_narrowest_measure kV_narrowest_measure dc_narrowest_measure pm_narrowest_measure cd_narrowest_measure ct_narrowest_measure : Value} {f_answer : Addr} {od_answer an_answer : Option Addr} {sl_answer : Array (Option Value)} {oc_answer kV_answer dc_answer pm_answer cd_answer ct_answer : Value} {f_answers : Addr} {od_answers an_answers : Option Addr} {sl_answers : Array (Option Value)} {oc_answers kV_answers dc_answers pm_answers cd_answers ct_answers : Value}
    (aC_Edges : PySem.W.nsIn K mainGlobals "Edges" = some (some (.ref C_Edges)))
    (aC_Line : PySem.W.nsIn K mainGlobals "Line" = some (some (.ref C_Line)))
    (aC_Measure : PySem.W.nsIn K mainGlobals "Measure" = some (some (.ref C_Measure)))
    (g_WIDTH : PySem.W.nsIn K mainGlobals "WIDTH" = some (some (.int (0) k_WIDTH)))
    (g_HEIGHT : PySem.W.nsIn K mainGlobals "HEIGHT" = some (some (.int (1) k_HEIGHT)))
    (g_DEPTH : PySem.W.nsIn K mainGlobals "DEPTH" = some (some (.int (2) k_DEPTH)))
    (g_SPACE : PySem.W.nsIn K mainGlobals "SPACE" = some (some (.int (3) k_SPACE)))
    (g_STRETCH : PySem.W.nsIn K mainGlobals "STRETCH" = some (some (.int (4) k_STRETCH)))
    (g_SHRINK : PySem.W.nsIn K mainGlobals "SHRINK" = some (some (.int (5) k_SHRINK)))
    (g_COST : PySem.W.nsIn K mainGlobals "COST" = some (some (.int (6) k_COST)))
    (g_NO_BREAK : PySem.W.nsIn K mainGlobals "NO_BREAK" = some (some (.int (-1) k_NO_BREAK)))
    (g_LINE_UNIT : PySem.W.nsIn K mainGlobals "LINE_UNIT" = some (some (.int (1) k_LINE_UNIT)))
    (g_COST_UNIT : PySem.W.nsIn K mainGlobals "COST_UNIT" = some (some (.int (1000) k_COST_UNIT)))
    (g_OVERFULL_UNIT : PySem.W.nsIn K mainGlobals "OVERFULL_UNIT" = some (some (.int (1000000000000000000000000) k_OVERFULL_UNIT)))
    (g_HEAVIEST : PySem.W.nsIn K mainGlobals "HEAVIEST" = some (some (.int (1000000000000000000000000000000000000000000) k_HEAVIEST)))
    (g_ITEM_SIZE : PySem.W.nsIn K mainGlobals "ITEM_SIZE" = some (some (.int (7) k_ITEM_SIZE)))
    (g_MOST_ITEMS : PySem.W.nsIn K mainGlobals "MOST_ITEMS" = some (some (.int (300) k_MOST_ITEMS)))
    (g_LEAST_NUMBERS : PySem.W.nsIn K mainGlobals "LEAST_NUMBERS" = some (some (.ref A_LEAST_NUMBERS)))
    (l_LEAST_NUMBERS : K.lookup A_LEAST_NUMBERS = some o_LEAST_NUMBERS)
    (t_LEAST_NUMBERS : o_LEAST_NUMBERS.cls = .type "tuple")
    (d_LEAST_NUMBERS : o_LEAST_NUMBERS.data = .seq i_LEAST_NUMBERS n_LEAST_NUMBERS)
    (v_LEAST_NUMBERS : Vals [.int (0), .int (-1000000), .int (-1000000), .int (0), .int (0), .int (0), .int (-1)] i_LEAST_NUMBERS.toList)
    (g_MOST_NUMBER : PySem.W.nsIn K mainGlobals "MOST_NUMBER" = some (some (.int (1000000) k_MOST_NUMBER)))
    (g_DONE : PySem.W.nsIn K mainGlobals "DONE" = some (some (.int (0) k_DONE)))
    (g_WRONG_COUNT : PySem.W.nsIn K mainGlobals "WRONG_COUNT" = some (some (.int (-1) k_WRONG_COUNT)))
    (g_WRONG_NUMBER : PySem.W.nsIn K mainGlobals "WRONG_NUMBER" = some (some (.int (-2) k_WRONG_NUMBER)))
    (g_TOO_MANY : PySem.W.nsIn K mainGlobals "TOO_MANY" = some (some (.int (-3) k_TOO_MANY)))
    (g_WRONG_MEASURE : PySem.W.nsIn K mainGlobals "WRONG_MEASURE" = some (some (.int (-4) k_WRONG_MEASURE)))
    (g_NO_ITEM : PySem.W.nsIn K mainGlobals "NO_ITEM" = some (some (.int (-5) k_NO_ITEM)))
    (g_NO_BREAKING : PySem.W.nsIn K mainGlobals "NO_BREAKING" = some (some (.int (-6) k_NO_BREAKING)))
    (g_ADD : PySem.W.nsIn K mainGlobals "ADD" = some (some (.int (0) k_ADD)))
    (g_PUT : PySem.W.nsIn K mainGlobals "PUT" = some (some (.int (1) k_PUT)))
    (g_CHANGE : PySem.W.nsIn K mainGlobals "CHANGE" = some (some (.int (2) k_CHANGE)))
    (g_TAKE : PySem.W.nsIn K mainGlobals "TAKE" = some (some (.int (3) k_TAKE)))
    (g_ROW : PySem.W.nsIn K mainGlobals "ROW" = some (some (.int (4) k_ROW)))
    (g_BEST : PySem.W.nsIn K mainGlobals "BEST" = some (some (.int (5) k_BEST)))
    (g_WORTH : PySem.W.nsIn K mainGlobals "WORTH" = some (some (.int (6) k_WORTH)))
    (g_JUDGE : PySem.W.nsIn K mainGlobals "JUDGE" = some (some (.int (7) k_JUDGE)))
    (g_GREEDY : PySem.W.nsIn K mainGlobals "GREEDY" = some (some (.int (8) k_GREEDY)))
    (g_LINES : PySem.W.nsIn K mainGlobals "LINES" = some (some (.int (9) k_LINES)))
    (g_PLACES : PySem.W.nsIn K mainGlobals "PLACES" = some (some (.int (10) k_PLACES)))
    (g_BOX : PySem.W.nsIn K mainGlobals "BOX" = some (some (.int (11) k_BOX)))
    (g_NATURAL : PySem.W.nsIn K mainGlobals "NATURAL" = some (some (.int (12) k_NATURAL)))
    (g_NARROWEST : PySem.W.nsIn K mainGlobals "NARROWEST" = some (some (.int (13) k_NARROWEST)))
    (g_WHOLE_COUNTS : PySem.W.nsIn K mainGlobals "WHOLE_COUNTS" = some (some (.ref A_WHOLE_COUNTS)))
    (l_WHOLE_COUNTS : K.lookup A_WHOLE_COUNTS = some o_WHOLE_COUNTS)
    (t_WHOLE_COUNTS : o_WHOLE_COUNTS.cls = .type "tuple")
    (d_WHOLE_COUNTS : o_WHOLE_COUNTS.data = .seq i_WHOLE_COUNTS n_WHOLE_COUNTS)
    (v_WHOLE_COUNTS : Vals [.int (0), .int (1), .int (1), .int (1), .int (0), .int (3), .int (3), .int (3), .int (3), .int (3), .int (6), .int (5), .int (0), .int (0)] i_WHOLE_COUNTS.toList)
    (g_HAS_LIST : PySem.W.nsIn K mainGlobals "HAS_LIST" = some (some (.ref A_HAS_LIST)))
    (l_HAS_LIST : K.lookup A_HAS_LIST = some o_HAS_LIST)
    (t_HAS_LIST : o_HAS_LIST.cls = .type "tuple")
    (d_HAS_LIST : o_HAS_LIST.data = .seq i_HAS_LIST n_HAS_LIST)
    (v_HAS_LIST : Vals [.bl true, .bl true, .bl true, .bl false, .bl false, .bl false, .bl false, .bl true, .bl false, .bl false, .bl false, .bl false, .bl false, .bl false] i_HAS_LIST.toList)
    (g_MOST_OF_MEASURE : PySem.W.nsIn K mainGlobals "MOST_OF_MEASURE" = some (some (.ref A_MOST_OF_MEASURE)))
    (l_MOST_OF_MEASURE : K.lookup A_MOST_OF_MEASURE = some o_MOST_OF_MEASURE)
    (t_MOST_OF_MEASURE : o_MOST_OF_MEASURE.cls = .type "tuple")
    (d_MOST_OF_MEASURE : o_MOST_OF_MEASURE.data = .seq i_MOST_OF_MEASURE n_MOST_OF_MEASURE)
    (v_MOST_OF_MEASURE : Vals [.int (100000000), .int (100000000), .int (100000000)] i_MOST_OF_MEASURE.toList)
    (g_MOST_OF_PLACES : PySem.W.nsIn K mainGlobals "MOST_OF_PLACES" = some (some (.ref A_MOST_OF_PLACES)))
    (l_MOST_OF_PLACES : K.lookup A_MOST_OF_PLACES = some o_MOST_OF_PLACES)
    (t_MOST_OF_PLACES : o_MOST_OF_PLACES.cls = .type "tuple")
    (d_MOST_OF_PLACES : o_MOST_OF_PLACES.data = .seq i_MOST_OF_PLACES n_MOST_OF_PLACES)
    (v_MOST_OF_PLACES : Vals [.int (100000000), .int (100000000), .int (100000000), .int (1), .int (1000000), .int (1000000)] i_MOST_OF_PLACES.toList)
    (g_MOST_OF_BOX : PySem.W.nsIn K mainGlobals "MOST_OF_BOX" = some (some (.ref A_MOST_OF_BOX)))
    (l_MOST_OF_BOX : K.lookup A_MOST_OF_BOX = some o_MOST_OF_BOX)
    (t_MOST_OF_BOX : o_MOST_OF_BOX.cls = .type "tuple")
    (d_MOST_OF_BOX : o_MOST_OF_BOX.data = .seq i_MOST_OF_BOX n_MOST_OF_BOX)
    (v_MOST_OF_BOX : Vals [.int (100000000), .int (100000000), .int (100000000), .int (1000000), .int (1000000)] i_MOST_OF_BOX.toList)
    (b_len : PySem.W.nsIn K mainGlobals "len" = some none)
    (b_range : PySem.W.nsIn K mainGlobals "range" = some none)
    (b_zip : PySem.W.nsIn K mainGlobals "zip" = some none)
    (b_tuple : PySem.W.nsIn K mainGlobals "tuple" = some none)
    (b_max : PySem.W.nsIn K mainGlobals "max" = some none)
    (b_min : PySem.W.nsIn K mainGlobals "min" = some none)
    (b_sum : PySem.W.nsIn K mainGlobals "sum" = some none)
    (b_enumerate : PySem.W.nsIn K mainGlobals "enumerate" = some none)
    (a_Measure_init : PySem.W.findIn K (.ref C_Measure) "__init__" = some (some (.ref f_Measure_init)))
    (i_Measure_init : PySem.W.isFn K (.ref f_Measure_init) = true)
    (l_Measure_init : K.lookup f_Measure_init = some ⟨oc_Measure_init, od_Measure_init, .func (PySem.W.fnOf "__init__" "Measure.__init__" (defArgs s_Measure_init) (defBody s_Measure_init) (defScope s_Measure_init) .none kV_Measure_init dc_Measure_init pm_Measure_init an_Measure_init cd_Measure_init ct_Measure_init), sl_Measure_init⟩)
    (c_Measure_init : PySem.W.codeIn K cd_Measure_init "Measure.__init__" = true)
    (k_Measure_init : PySem.W.keepIn K (.ref f_Measure_init) = true)
    (a_Edges_init : PySem.W.findIn K (.ref C_Edges) "__init__" = some (some (.ref f_Edges_init)))
    (i_Edges_init : PySem.W.isFn K (.ref f_Edges_init) = true)
    (l_Edges_init : K.lookup f_Edges_init = some ⟨oc_Edges_init, od_Edges_init, .func (PySem.W.fnOf "__init__" "Edges.__init__" (defArgs s_Edges_init) (defBody s_Edges_init) (defScope s_Edges_init) .none kV_Edges_init dc_Edges_init pm_Edges_init an_Edges_init cd_Edges_init ct_Edges_init), sl_Edges_init⟩)
    (c_Edges_init : PySem.W.codeIn K cd_Edges_init "Edges.__init__" = true)
    (k_Edges_init : PySem.W.keepIn K (.ref f_Edges_init) = true)
    (a_follow : PySem.W.nsIn K mainGlobals "follow" = some (some (.ref f_follow)))
    (l_follow : K.lookup f_follow = some ⟨oc_follow, od_follow, .func (PySem.W.fnOf "follow" "follow" (defArgs s_follow) (defBody s_follow) (defScope s_follow) .none kV_follow dc_follow pm_follow an_follow cd_follow ct_follow), sl_follow⟩)
    (c_follow : PySem.W.codeIn K cd_follow "follow" = true)
    (k_follow : PySem.W.keepIn K (.ref f_follow) = true)
    (a_best_line : PySem.W.nsIn K mainGlobals "best_line" = some (some (.ref f_best_line)))
    (l_best_line : K.lookup f_best_line = some ⟨oc_best_line, od_best_line, .func (PySem.W.fnOf "best_line" "best_line" (defArgs s_best_line) (defBody s_best_line) (defScope s_best_line) .none kV_best_line dc_best_line pm_best_line an_best_line cd_best_line ct_best_line), sl_best_line⟩)
    (c_best_line : PySem.W.codeIn K cd_best_line "best_line" = true)
    (k_best_line : PySem.W.keepIn K (.ref f_best_line) = true)
    (a_may_end : PySem.W.nsIn K mainGlobals "may_end" = some (some (.ref f_may_end)))
    (l_may_end : K.lookup f_may_end = some ⟨oc_may_end, od_may_end, .func (PySem.W.fnOf "may_end" "may_end" (defArgs s_may_end) (defBody s_may_end) (defScope s_may_end) .none kV_may_end dc_may_end pm_may_end an_may_end cd_may_end ct_may_end), sl_may_end⟩)
    (c_may_end : PySem.W.codeIn K cd_may_end "may_end" = true)
    (k_may_end : PySem.W.keepIn K (.ref f_may_end) = true)
    (a_Measure_indent_at : PySem.W.findIn K (.ref C_Measure) "indent_at" = some (some (.ref f_Measure_indent_at)))
    (i_Measure_indent_at : PySem.W.isFn K (.ref f_Measure_indent_at) = true)
    (l_Measure_indent_at : K.lookup f_Measure_indent_at = some ⟨oc_Measure_indent_at, od_Measure_indent_at, .func (PySem.W.fnOf "indent_at" "Measure.indent_at" (defArgs s_Measure_indent_at) (defBody s_Measure_indent_at) (defScope s_Measure_indent_at) .none kV_Measure_indent_at dc_Measure_indent_at pm_Measure_indent_at an_Measure_indent_at cd_Measure_indent_at ct_Measure_indent_at), sl_Measure_indent_at⟩)
    (c_Measure_indent_at : PySem.W.codeIn K cd_Measure_indent_at "Measure.indent_at" = true)
    (k_Measure_indent_at : PySem.W.keepIn K (.ref f_Measure_indent_at) = true)
    (a_Measure_room_at : PySem.W.findIn K (.ref C_Measure) "room_at" = some (some (.ref f_Measure_room_at)))
    (i_Measure_room_at : PySem.W.isFn K (.ref f_Measure_room_at) = true)
    (l_Measure_room_at : K.lookup f_Measure_room_at = some ⟨oc_Measure_room_at, od_Measure_room_at, .func (PySem.W.fnOf "room_at" "Measure.room_at" (defArgs s_Measure_room_at) (defBody s_Measure_room_at) (defScope s_Measure_room_at) .none kV_Measure_room_at dc_Measure_room_at pm_Measure_room_at an_Measure_room_at cd_Measure_room_at ct_Measure_room_at), sl_Measure_room_at⟩)
    (c_Measure_room_at : PySem.W.codeIn K cd_Measure_room_at "Measure.room_at" = true)
    (k_Measure_room_at : PySem.W.keepIn K (.ref f_Measure_room_at) = true)
    (a_best_breaking : PySem.W.nsIn K mainGlobals "best_breaking" = some (some (.ref f_best_breaking)))
    (l_best_breaking : K.lookup f_best_breaking = some ⟨oc_best_breaking, od_best_breaking, .func (PySem.W.fnOf "best_breaking" "best_breaking" (defArgs s_best_breaking) (defBody s_best_breaking) (defScope s_best_breaking) .none kV_best_breaking dc_best_breaking pm_best_breaking an_best_breaking cd_best_breaking ct_best_breaking), sl_best_breaking⟩)
    (c_best_breaking : PySem.W.codeIn K cd_best_breaking "best_breaking" = true)
    (k_best_breaking : PySem.W.keepIn K (.ref f_best_breaking) = true)
    (a_Line_init : PySem.W.findIn K (.ref C_Line) "__init__" = some (some (.ref f_Line_init)))
    (i_Line_init : PySem.W.isFn K (.ref f_Line_init) = true)
    (l_Line_init : K.lookup f_Line_init = some ⟨oc_Line_init, od_Line_init, .func (PySem.W.fnOf "__init__" "Line.__init__" (defArgs s_Line_init) (defBody s_Line_init) (defScope s_Line_init) .none kV_Line_init dc_Line_init pm_Line_init an_Line_init cd_Line_init ct_Line_init), sl_Line_init⟩)
    (c_Line_init : PySem.W.codeIn K cd_Line_init "Line.__init__" = true)
    (k_Line_init : PySem.W.keepIn K (.ref f_Line_init) = true)
    (a_set_lines : PySem.W.nsIn K mainGlobals "set_lines" = some (some (.ref f_set_lines)))
    (l_set_lines : K.lookup f_set_lines = some ⟨oc_set_lines, od_set_lines, .func (PySem.W.fnOf "set_lines" "set_lines" (defArgs s_set_lines) (defBody s_set_lines) (defScope s_set_lines) .none kV_set_lines dc_set_lines pm_set_lines an_set_lines cd_set_lines ct_set_lines), sl_set_lines⟩)
    (c_set_lines : PySem.W.codeIn K cd_set_lines "set_lines" = true)
    (k_set_lines : PySem.W.keepIn K (.ref f_set_lines) = true)
    (a_in_range : PySem.W.nsIn K mainGlobals "in_range" = some (some (.ref f_in_range)))
    (l_in_range : K.lookup f_in_range = some ⟨oc_in_range, od_in_range, .func (PySem.W.fnOf "in_range" "in_range" (defArgs s_in_range) (defBody s_in_range) (defScope s_in_range) .none kV_in_range dc_in_range pm_in_range an_in_range cd_in_range ct_in_range), sl_in_range⟩)
    (c_in_range : PySem.W.codeIn K cd_in_range "in_range" = true)
    (k_in_range : PySem.W.keepIn K (.ref f_in_range) = true)
    (a_is_breaking : PySem.W.nsIn K mainGlobals "is_breaking" = some (some (.ref f_is_breaking)))
    (l_is_breaking : K.lookup f_is_breaking = some ⟨oc_is_breaking, od_is_breaking, .func (PySem.W.fnOf "is_breaking" "is_breaking" (defArgs s_is_breaking) (defBody s_is_breaking) (defScope s_is_breaking) .none kV_is_breaking dc_is_breaking pm_is_breaking an_is_breaking cd_is_breaking ct_is_breaking), sl_is_breaking⟩)
    (c_is_breaking : PySem.W.codeIn K cd_is_breaking "is_breaking" = true)
    (k_is_breaking : PySem.W.keepIn K (.ref f_is_breaking) = true)
    (a_totals : PySem.W.nsIn K mainGlobals "totals" = some (some (.ref f_totals)))
    (l_totals : K.lookup f_totals = some ⟨oc_totals, od_totals, .func (PySem.W.fnOf "totals" "totals" (defArgs s_totals) (defBody s_totals) (defScope s_totals) .none kV_totals dc_totals pm_totals an_totals cd_totals ct_totals), sl_totals⟩)
    (c_totals : PySem.W.codeIn K cd_totals "totals" = true)
    (k_totals : PySem.W.keepIn K (.ref f_totals) = true)
    (a_judge : PySem.W.nsIn K mainGlobals "judge" = some (some (.ref f_judge)))
    (l_judge : K.lookup f_judge = some ⟨oc_judge, od_judge, .func (PySem.W.fnOf "judge" "judge" (defArgs s_judge) (defBody s_judge) (defScope s_judge) .none kV_judge dc_judge pm_judge an_judge cd_judge ct_judge), sl_judge⟩)
    (c_judge : PySem.W.codeIn K cd_judge "judge" = true)
    (k_judge : PySem.W.keepIn K (.ref f_judge) = true)
    (a_baselines : PySem.W.nsIn K mainGlobals "baselines" = some (some (.ref f_baselines)))
    (l_baselines : K.lookup f_baselines = some ⟨oc_baselines, od_baselines, .func (PySem.W.fnOf "baselines" "baselines" (defArgs s_baselines) (defBody s_baselines) (defScope s_baselines) .none kV_baselines dc_baselines pm_baselines an_baselines cd_baselines ct_baselines), sl_baselines⟩)
    (c_baselines : PySem.W.codeIn K cd_baselines "baselines" = true)
    (k_baselines : PySem.W.keepIn K (.ref f_baselines) = true)
    (a_outer_box : PySem.W.nsIn K mainGlobals "outer_box" = some (some (.ref f_outer_box)))
    (l_outer_box : K.lookup f_outer_box = some ⟨oc_outer_box, od_outer_box, .func (PySem.W.fnOf "outer_box" "outer_box" (defArgs s_outer_box) (defBody s_outer_box) (defScope s_outer_box) .none kV_outer_box dc_outer_box pm_outer_box an_outer_box cd_outer_box ct_outer_box), sl_outer_box⟩)
    (c_outer_box : PySem.W.codeIn K cd_outer_box "outer_box" = true)
    (k_outer_box : PySem.W.keepIn K (.ref f_outer_box) = true)
    (a_most_wholes : PySem.W.nsIn K mainGlobals "most_wholes" = some (some (.ref f_most_wholes)))
    (l_most_wholes : K.lookup f_most_wholes = some ⟨oc_most_wholes, od_most_wholes, .func (PySem.W.fnOf "most_wholes" "most_wholes" (defArgs s_most_wholes) (defBody s_most_wholes) (defScope s_most_wholes) .none kV_most_wholes dc_most_wholes pm_most_wholes an_most_wholes cd_most_wholes ct_most_wholes), sl_most_wholes⟩)
    (c_most_wholes : PySem.W.codeIn K cd_most_wholes "most_wholes" = true)
    (k_most_wholes : PySem.W.keepIn K (.ref f_most_wholes) = true)
    (a_greedy_line : PySem.W.nsIn K mainGlobals "greedy_line" = some (some (.ref f_greedy_line)))
    (l_greedy_line : K.lookup f_greedy_line = some ⟨oc_greedy_line, od_greedy_line, .func (PySem.W.fnOf "greedy_line" "greedy_line" (defArgs s_greedy_line) (defBody s_greedy_line) (defScope s_greedy_line) .none kV_greedy_line dc_greedy_line pm_greedy_line an_greedy_line cd_greedy_line ct_greedy_line), sl_greedy_line⟩)
    (c_greedy_line : PySem.W.codeIn K cd_greedy_line "greedy_line" = true)
    (k_greedy_line : PySem.W.keepIn K (.ref f_greedy_line) = true)
    (a_greedy_breaking : PySem.W.nsIn K mainGlobals "greedy_breaking" = some (some (.ref f_greedy_breaking)))
    (l_greedy_breaking : K.lookup f_greedy_breaking = some ⟨oc_greedy_breaking, od_greedy_breaking, .func (PySem.W.fnOf "greedy_breaking" "greedy_breaking" (defArgs s_greedy_breaking) (defBody s_greedy_breaking) (defScope s_greedy_breaking) .none kV_greedy_breaking dc_greedy_breaking pm_greedy_breaking an_greedy_breaking cd_greedy_breaking ct_greedy_breaking), sl_greedy_breaking⟩)
    (c_greedy_breaking : PySem.W.codeIn K cd_greedy_breaking "greedy_breaking" = true)
    (k_greedy_breaking : PySem.W.keepIn K (.ref f_greedy_breaking) = true)
    (a_line_numbers : PySem.W.nsIn K mainGlobals "line_numbers" = some (some (.ref f_line_numbers)))
    (l_line_numbers : K.lookup f_line_numbers = some ⟨oc_line_numbers, od_line_numbers, .func (PySem.W.fnOf "line_numbers" "line_numbers" (defArgs s_line_numbers) (defBody s_line_numbers) (defScope s_line_numbers) .none kV_line_numbers dc_line_numbers pm_line_numbers an_line_numbers cd_line_numbers ct_line_numbers), sl_line_numbers⟩)
    (c_line_numbers : PySem.W.codeIn K cd_line_numbers "line_numbers" = true)
    (k_line_numbers : PySem.W.keepIn K (.ref f_line_numbers) = true)
    (a_item_edges : PySem.W.nsIn K mainGlobals "item_edges" = some (some (.ref f_item_edges)))
    (l_item_edges : K.lookup f_item_edges = some ⟨oc_item_edges, od_item_edges, .func (PySem.W.fnOf "item_edges" "item_edges" (defArgs s_item_edges) (defBody s_item_edges) (defScope s_item_edges) .none kV_item_edges dc_item_edges pm_item_edges an_item_edges cd_item_edges ct_item_edges), sl_item_edges⟩)
    (c_item_edges : PySem.W.codeIn K cd_item_edges "item_edges" = true)
    (k_item_edges : PySem.W.keepIn K (.ref f_item_edges) = true)
    (a_shares : PySem.W.nsIn K mainGlobals "shares" = some (some (.ref f_shares)))
    (l_shares : K.lookup f_shares = some ⟨oc_shares, od_shares, .func (PySem.W.fnOf "shares" "shares" (defArgs s_shares) (defBody s_shares) (defScope s_shares) .none kV_shares dc_shares pm_shares an_shares cd_shares ct_shares), sl_shares⟩)
    (c_shares : PySem.W.codeIn K cd_shares "shares" = true)
    (k_shares : PySem.W.keepIn K (.ref f_shares) = true)
    (a_shifts : PySem.W.nsIn K mainGlobals "shifts" = some (some (.ref f_shifts)))
    (l_shifts : K.lookup f_shifts = some ⟨oc_shifts, od_shifts, .func (PySem.W.fnOf "shifts" "shifts" (defArgs s_shifts) (defBody s_shifts) (defScope s_shifts) .none kV_shifts dc_shifts pm_shifts an_shifts cd_shifts ct_shifts), sl_shifts⟩)
    (c_shifts : PySem.W.codeIn K cd_shifts "shifts" = true)
    (k_shifts : PySem.W.keepIn K (.ref f_shifts) = true)
    (a_item_places : PySem.W.nsIn K mainGlobals "item_places" = some (some (.ref f_item_places)))
    (l_item_places : K.lookup f_item_places = some ⟨oc_item_places, od_item_places, .func (PySem.W.fnOf "item_places" "item_places" (defArgs s_item_places) (defBody s_item_places) (defScope s_item_places) .none kV_item_places dc_item_places pm_item_places an_item_places cd_item_places ct_item_places), sl_item_places⟩)
    (c_item_places : PySem.W.codeIn K cd_item_places "item_places" = true)
    (k_item_places : PySem.W.keepIn K (.ref f_item_places) = true)
    (a_answer_with_measure : PySem.W.nsIn K mainGlobals "answer_with_measure" = some (some (.ref f_answer_with_measure)))
    (l_answer_with_measure : K.lookup f_answer_with_measure = some ⟨oc_answer_with_measure, od_answer_with_measure, .func (PySem.W.fnOf "answer_with_measure" "answer_with_measure" (defArgs s_answer_with_measure) (defBody s_answer_with_measure) (defScope s_answer_with_measure) .none kV_answer_with_measure dc_answer_with_measure pm_answer_with_measure an_answer_with_measure cd_answer_with_measure ct_answer_with_measure), sl_answer_with_measure⟩)
    (c_answer_with_measure : PySem.W.codeIn K cd_answer_with_measure "answer_with_measure" = true)
    (k_answer_with_measure : PySem.W.keepIn K (.ref f_answer_with_measure) = true)
    (a_cut : PySem.W.nsIn K mainGlobals "cut" = some (some (.ref f_cut)))
    (l_cut : K.lookup f_cut = some ⟨oc_cut, od_cut, .func (PySem.W.fnOf "cut" "cut" (defArgs s_cut) (defBody s_cut) (defScope s_cut) .none kV_cut dc_cut pm_cut an_cut cd_cut ct_cut), sl_cut⟩)
    (c_cut : PySem.W.codeIn K cd_cut "cut" = true)
    (k_cut : PySem.W.keepIn K (.ref f_cut) = true)
    (a_fits : PySem.W.nsIn K mainGlobals "fits" = some (some (.ref f_fits)))
    (l_fits : K.lookup f_fits = some ⟨oc_fits, od_fits, .func (PySem.W.fnOf "fits" "fits" (defArgs s_fits) (defBody s_fits) (defScope s_fits) .none kV_fits dc_fits pm_fits an_fits cd_fits ct_fits), sl_fits⟩)
    (c_fits : PySem.W.codeIn K cd_fits "fits" = true)
    (k_fits : PySem.W.keepIn K (.ref f_fits) = true)
    (a_numbers_refusal : PySem.W.nsIn K mainGlobals "numbers_refusal" = some (some (.ref f_numbers_refusal)))
    (l_numbers_refusal : K.lookup f_numbers_refusal = some ⟨oc_numbers_refusal, od_numbers_refusal, .func (PySem.W.fnOf "numbers_refusal" "numbers_refusal" (defArgs s_numbers_refusal) (defBody s_numbers_refusal) (defScope s_numbers_refusal) .none kV_numbers_refusal dc_numbers_refusal pm_numbers_refusal an_numbers_refusal cd_numbers_refusal ct_numbers_refusal), sl_numbers_refusal⟩)
    (c_numbers_refusal : PySem.W.codeIn K cd_numbers_refusal "numbers_refusal" = true)
    (k_numbers_refusal : PySem.W.keepIn K (.ref f_numbers_refusal) = true)
    (a_add : PySem.W.nsIn K mainGlobals "add" = some (some (.ref f_add)))
    (l_add : K.lookup f_add = some ⟨oc_add, od_add, .func (PySem.W.fnOf "add" "add" (defArgs s_add) (defBody s_add) (defScope s_add) .none kV_add dc_add pm_add an_add cd_add ct_add), sl_add⟩)
    (c_add : PySem.W.codeIn K cd_add "add" = true)
    (k_add : PySem.W.keepIn K (.ref f_add) = true)
    (a_item_refusal : PySem.W.nsIn K mainGlobals "item_refusal" = some (some (.ref f_item_refusal)))
    (l_item_refusal : K.lookup f_item_refusal = some ⟨oc_item_refusal, od_item_refusal, .func (PySem.W.fnOf "item_refusal" "item_refusal" (defArgs s_item_refusal) (defBody s_item_refusal) (defScope s_item_refusal) .none kV_item_refusal dc_item_refusal pm_item_refusal an_item_refusal cd_item_refusal ct_item_refusal), sl_item_refusal⟩)
    (c_item_refusal : PySem.W.codeIn K cd_item_refusal "item_refusal" = true)
    (k_item_refusal : PySem.W.keepIn K (.ref f_item_refusal) = true)
    (a_put : PySem.W.nsIn K mainGlobals "put" = some (some (.ref f_put)))
    (l_put : K.lookup f_put = some ⟨oc_put, od_put, .func (PySem.W.fnOf "put" "put" (defArgs s_put) (defBody s_put) (defScope s_put) .none kV_put dc_put pm_put an_put cd_put ct_put), sl_put⟩)
    (c_put : PySem.W.codeIn K cd_put "put" = true)
    (k_put : PySem.W.keepIn K (.ref f_put) = true)
    (a_change : PySem.W.nsIn K mainGlobals "change" = some (some (.ref f_change)))
    (l_change : K.lookup f_change = some ⟨oc_change, od_change, .func (PySem.W.fnOf "change" "change" (defArgs s_change) (defBody s_change) (defScope s_change) .none kV_change dc_change pm_change an_change cd_change ct_change), sl_change⟩)
    (c_change : PySem.W.codeIn K cd_change "change" = true)
    (k_change : PySem.W.keepIn K (.ref f_change) = true)
    (a_take : PySem.W.nsIn K mainGlobals "take" = some (some (.ref f_take)))
    (l_take : K.lookup f_take = some ⟨oc_take, od_take, .func (PySem.W.fnOf "take" "take" (defArgs s_take) (defBody s_take) (defScope s_take) .none kV_take dc_take pm_take an_take cd_take ct_take), sl_take⟩)
    (c_take : PySem.W.codeIn K cd_take "take" = true)
    (k_take : PySem.W.keepIn K (.ref f_take) = true)
    (a_row : PySem.W.nsIn K mainGlobals "row" = some (some (.ref f_row)))
    (l_row : K.lookup f_row = some ⟨oc_row, od_row, .func (PySem.W.fnOf "row" "row" (defArgs s_row) (defBody s_row) (defScope s_row) .none kV_row dc_row pm_row an_row cd_row ct_row), sl_row⟩)
    (c_row : PySem.W.codeIn K cd_row "row" = true)
    (k_row : PySem.W.keepIn K (.ref f_row) = true)
    (a_natural_width : PySem.W.nsIn K mainGlobals "natural_width" = some (some (.ref f_natural_width)))
    (l_natural_width : K.lookup f_natural_width = some ⟨oc_natural_width, od_natural_width, .func (PySem.W.fnOf "natural_width" "natural_width" (defArgs s_natural_width) (defBody s_natural_width) (defScope s_natural_width) .none kV_natural_width dc_natural_width pm_natural_width an_natural_width cd_natural_width ct_natural_width), sl_natural_width⟩)
    (c_natural_width : PySem.W.codeIn K cd_natural_width "natural_width" = true)
    (k_natural_width : PySem.W.keepIn K (.ref f_natural_width) = true)
    (a_narrowest_measure : PySem.W.nsIn K mainGlobals "narrowest_measure" = some (some (.ref f_narrowest_measure)))
    (l_narrowest_measure : K.lookup f_narrowest_measure = some ⟨oc_narrowest_measure, od_narrowest_measure, .func (PySem.W.fnOf "narrowest_measure" "narrowest_measure" (defArgs s_narrowest_measure) (defBody s_narrowest_measure) (defScope s_narrowest_measure) .none kV_narrowest_measure dc_narrowest_measure pm_narrowest_measure an_narrowest_measure cd_narrowest_measure ct_narrowest_measure), sl_narrowest_measure⟩)
    (c_narrowest_measure : PySem.W.codeIn K cd_narrowest_measure "narrowest_measure" = true)
    (k_narrowest_measure : PySem.W.keepIn K (.ref f_narrowest_measure) = true)
    (a_answer : PySem.W.nsIn K mainGlobals "answer" = some (some (.ref f_answer)))
    (l_answer : K.lookup f_answer = some ⟨oc_answer, od_answer, .func (PySem.W.fnOf "answer" "answer" (defArgs s_answer) (defBody s_answer) (defScope s_answer) .none kV_answer dc_answer pm_answer an_answer cd_answer ct_answer), sl_answer⟩)
    (c_answer : PySem.W.codeIn K cd_answer "answer" = true)
    (k_answer : PySem.W.keepIn K (.ref f_answer) = true)
    (a_answers : PySem.W.nsIn K mainGlobals "answers" = some (some (.ref f_answers)))
    (l_answers : K.lookup f_answers = some ⟨oc_answers, od_answers, .func (PySem.W.fnOf "answers" "answers" (defArgs s_answers) (defBody s_answers) (defScope s_answers) .none kV_answers dc_answers pm_answers an_answers cd_answers ct_answers), sl_answers⟩)
    (c_answers : PySem.W.codeIn K cd_answers "answers" = true)
    (k_answers : PySem.W.keepIn K (.ref f_answers) = true)
    (pg_Edges : PySem.W.plainGet K C_Edges Str.empty = true)
    (hd_Edges : PySem.W.hasDictIn K C_Edges = true)
    (po_Edges : PySem.W.plainOver K C_Edges = true)
    (sa_Edges : PySem.W.findIn K (.ref C_Edges) "__setattr__" = some (some (.builtin "object.__setattr__")))
    (mk_Edges : PySem.W.makesIn K C_Edges = true)
    (kc_Edges : PySem.W.keepIn K (.ref C_Edges) = true)
    (n_Edges_begins : PySem.W.findIn K (.ref C_Edges) "begins" = some none)
    (n_Edges_stops : PySem.W.findIn K (.ref C_Edges) "stops" = some none)
    (n_Edges_tight_begins : PySem.W.findIn K (.ref C_Edges) "tight_begins" = some none)
    (n_Edges_tight_stops : PySem.W.findIn K (.ref C_Edges) "tight_stops" = some none)
    (pg_Line : PySem.W.plainGet K C_Line Str.empty = true)
    (hd_Line : PySem.W.hasDictIn K C_Line = true)
    (po_Line : PySem.W.plainOver K C_Line = true)
    (sa_Line : PySem.W.findIn K (.ref C_Line) "__setattr__" = some (some (.builtin "object.__setattr__")))
    (mk_Line : PySem.W.makesIn K C_Line = true)
    (kc_Line : PySem.W.keepIn K (.ref C_Line) = true)
    (n_Line_begin : PySem.W.findIn K (.ref C_Line) "begin" = some none)
    (n_Line_end : PySem.W.findIn K (.ref C_Line) "end" = some none)
    (n_Line_is_last : PySem.W.findIn K (.ref C_Line) "is_last" = some none)
    (n_Line_indent : PySem.W.findIn K (.ref C_Line) "indent" = some none)
    (n_Line_natural : PySem.W.findIn K (.ref C_Line) "natural" = some none)
    (n_Line_stretch : PySem.W.findIn K (.ref C_Line) "stretch" = some none)
    (n_Line_shrink : PySem.W.findIn K (.ref C_Line) "shrink" = some none)
    (n_Line_slack : PySem.W.findIn K (.ref C_Line) "slack" = some none)
    (n_Line_overfull : PySem.W.findIn K (.ref C_Line) "overfull" = some none)
    (n_Line_height : PySem.W.findIn K (.ref C_Line) "height" = some none)
    (n_Line_depth : PySem.W.findIn K (.ref C_Line) "depth" = some none)
    (n_Line_cost : PySem.W.findIn K (.ref C_Line) "cost" = some none)
    (pg_Measure : PySem.W.plainGet K C_Measure Str.empty = true)
    (hd_Measure : PySem.W.hasDictIn K C_Measure = true)
    (po_Measure : PySem.W.plainOver K C_Measure = true)
    (sa_Measure : PySem.W.findIn K (.ref C_Measure) "__setattr__" = some (some (.builtin "object.__setattr__")))
    (mk_Measure : PySem.W.makesIn K C_Measure = true)
    (kc_Measure : PySem.W.keepIn K (.ref C_Measure) = true)
    (n_Measure_width : PySem.W.findIn K (.ref C_Measure) "width" = some none)
    (n_Measure_first : PySem.W.findIn K (.ref C_Measure) "first" = some none)
    (n_Measure_indent : PySem.W.findIn K (.ref C_Measure) "indent" = some none)
    : ∃ fd : FuncData, (∀ (s : Shared) (us : List Value), us.length = (["calls"] : List Str).length → BindsTo s fd ⟨us, []⟩ ((["calls"] : List Str).zip us)) ∧ ∀ base : Heap, K.In base → base.Ns mainGlobals mg → FnOk P w K mg base CX0 9 fa fd ["calls"] (sp_answers K) := by
  have e := hfa.symm.trans (PySem.W.mg_of X G a_answers)
  cases e
  let t : Adr := ⟨A_LEAST_NUMBERS, A_WHOLE_COUNTS, A_HAS_LIST, A_MOST_OF_MEASURE, A_MOST_OF_PLACES, A_MOST_OF_BOX, C_Edges, C_Measure, C_Line⟩
  have TX : Tx K t := ⟨fun H => .inr ⟨_, _, _, l_LEAST_NUMBERS, t_LEAST_NUMBERS, d_LEAST_NUMBERS, vals_size v_LEAST_NUMBERS (by decide), v_LEAST_NUMBERS⟩, fun H => .inr ⟨_, _, _, l_WHOLE_COUNTS, t_WHOLE_COUNTS, d_WHOLE_COUNTS, vals_size v_WHOLE_COUNTS (by decide), v_WHOLE_COUNTS⟩, fun H => .inr ⟨_, _, _, l_HAS_LIST, t_HAS_LIST, d_HAS_LIST, vals_size v_HAS_LIST (by decide), v_HAS_LIST⟩, ⟨pg_Edges, hd_Edges, po_Edges, sa_Edges⟩, n_Edges_begins, n_Edges_stops, n_Edges_tight_begins, n_Edges_tight_stops, fun H => .inr ⟨_, _, _, l_MOST_OF_MEASURE, t_MOST_OF_MEASURE, d_MOST_OF_MEASURE, vals_size v_MOST_OF_MEASURE (by decide), v_MOST_OF_MEASURE⟩, fun H => .inr ⟨_, _, _, l_MOST_OF_PLACES, t_MOST_OF_PLACES, d_MOST_OF_PLACES, vals_size v_MOST_OF_PLACES (by decide), v_MOST_OF_PLACES⟩, fun H => .inr ⟨_, _, _, l_MOST_OF_BOX, t_MOST_OF_BOX, d_MOST_OF_BOX, vals_size v_MOST_OF_BOX (by decide), v_MOST_OF_BOX⟩, ⟨pg_Measure, hd_Measure, po_Measure, sa_Measure⟩, n_Measure_width, n_Measure_first, n_Measure_indent, ⟨pg_Line, hd_Line, po_Line, sa_Line⟩, n_Line_begin, n_Line_end, n_Line_is_last, n_Line_indent, n_Line_natural, n_Line_stretch, n_Line_shrink, n_Line_slack, n_Line_overfull, n_Line_height, n_Line_depth, n_Line_cost⟩
  have T : Txt K mg t := ⟨TX, (PySem.W.mg_none_of X G b_len), (PySem.W.mg_none_of X G b_range), (PySem.W.mg_none_of X G b_zip), (PySem.W.mg_none_of X G b_tuple), (PySem.W.mg_none_of X G b_max), (PySem.W.mg_none_of X G b_min), (PySem.W.mg_none_of X G b_sum), (PySem.W.mg_none_of X G b_enumerate), ⟨_, PySem.W.mg_of X G g_WIDTH, ⟨_, rfl⟩⟩, ⟨_, PySem.W.mg_of X G g_HEIGHT, ⟨_, rfl⟩⟩, ⟨_, PySem.W.mg_of X G g_DEPTH, ⟨_, rfl⟩⟩, ⟨_, PySem.W.mg_of X G g_SPACE, ⟨_, rfl⟩⟩, ⟨_, PySem.W.mg_of X G g_STRETCH, ⟨_, rfl⟩⟩, ⟨_, PySem.W.mg_of X G g_SHRINK, ⟨_, rfl⟩⟩, ⟨_, PySem.W.mg_of X G g_COST, ⟨_, rfl⟩⟩, ⟨_, PySem.W.mg_of X G g_NO_BREAK, ⟨_, rfl⟩⟩, ⟨_, PySem.W.mg_of X G g_LINE_UNIT, ⟨_, rfl⟩⟩, ⟨_, PySem.W.mg_of X G g_COST_UNIT, ⟨_, rfl⟩⟩, ⟨_, PySem.W.mg_of X G g_OVERFULL_UNIT, ⟨_, rfl⟩⟩, ⟨_, PySem.W.mg_of X G g_HEAVIEST, ⟨_, rfl⟩⟩, ⟨_, PySem.W.mg_of X G g_ITEM_SIZE, ⟨_, rfl⟩⟩, ⟨_, PySem.W.mg_of X G g_MOST_ITEMS, ⟨_, rfl⟩⟩, ⟨_, PySem.W.mg_of X G g_LEAST_NUMBERS, rfl⟩, ⟨_, PySem.W.mg_of X G g_MOST_NUMBER, ⟨_, rfl⟩⟩, ⟨_, PySem.W.mg_of X G g_DONE, ⟨_, rfl⟩⟩, ⟨_, PySem.W.mg_of X G g_WRONG_COUNT, ⟨_, rfl⟩⟩, ⟨_, PySem.W.mg_of X G g_WRONG_NUMBER, ⟨_, rfl⟩⟩, ⟨_, PySem.W.mg_of X G g_TOO_MANY, ⟨_, rfl⟩⟩, ⟨_, PySem.W.mg_of X G g_WRONG_MEASURE, ⟨_, rfl⟩⟩, ⟨_, PySem.W.mg_of X G g_NO_ITEM, ⟨_, rfl⟩⟩, ⟨_, PySem.W.mg_of X G g_NO_BREAKING, ⟨_, rfl⟩⟩, ⟨_, PySem.W.mg_of X G g_ADD, ⟨_, rfl⟩⟩, ⟨_, PySem.W.mg_of X G g_PUT, ⟨_, rfl⟩⟩, ⟨_, PySem.W.mg_of X G g_CHANGE, ⟨_, rfl⟩⟩, ⟨_, PySem.W.mg_of X G g_TAKE, ⟨_, rfl⟩⟩, ⟨_, PySem.W.mg_of X G g_ROW, ⟨_, rfl⟩⟩, ⟨_, PySem.W.mg_of X G g_BEST, ⟨_, rfl⟩⟩, ⟨_, PySem.W.mg_of X G g_WORTH, ⟨_, rfl⟩⟩, ⟨_, PySem.W.mg_of X G g_JUDGE, ⟨_, rfl⟩⟩, ⟨_, PySem.W.mg_of X G g_GREEDY, ⟨_, rfl⟩⟩, ⟨_, PySem.W.mg_of X G g_LINES, ⟨_, rfl⟩⟩, ⟨_, PySem.W.mg_of X G g_PLACES, ⟨_, rfl⟩⟩, ⟨_, PySem.W.mg_of X G g_BOX, ⟨_, rfl⟩⟩, ⟨_, PySem.W.mg_of X G g_NATURAL, ⟨_, rfl⟩⟩, ⟨_, PySem.W.mg_of X G g_NARROWEST, ⟨_, rfl⟩⟩, ⟨_, PySem.W.mg_of X G g_WHOLE_COUNTS, rfl⟩, ⟨_, PySem.W.mg_of X G g_HAS_LIST, rfl⟩, ⟨_, PySem.W.mg_of X G g_MOST_OF_MEASURE, rfl⟩, ⟨_, PySem.W.mg_of X G g_MOST_OF_PLACES, rfl⟩, ⟨_, PySem.W.mg_of X G g_MOST_OF_BOX, rfl⟩⟩
  have F_Measure_init := fun_mk (st := s_Measure_init) l_Measure_init c_Measure_init k_Measure_init
  have B_Measure_init := F_Measure_init.binds (ps := ["self", "width", "first", "indent"]) fun _ _ _ _ _ _ us hl => el4 (P := fun us => bindArgs _ ⟨us, []⟩ = pure (List.zip _ us)) (fun _ _ _ _ => rfl) us hl
  have F_Edges_init := fun_mk (st := s_Edges_init) l_Edges_init c_Edges_init k_Edges_init
  have B_Edges_init := F_Edges_init.binds (ps := ["self", "boxes"]) fun _ _ _ _ _ _ us hl => el2 (P := fun us => bindArgs _ ⟨us, []⟩ = pure (List.zip _ us)) (fun _ _ => rfl) us hl
  have F_follow := fun_mk (st := s_follow) l_follow c_follow k_follow
  have B_follow := F_follow.binds (ps := ["line_ends"]) fun _ _ _ _ _ _ us hl => el1 (P := fun us => bindArgs _ ⟨us, []⟩ = pure (List.zip _ us)) (fun _ => rfl) us hl
  have F_best_line := fun_mk (st := s_best_line) l_best_line c_best_line k_best_line
  have B_best_line := F_best_line.binds (ps := ["edges", "begin", "room", "ends", "rests"]) fun _ _ _ _ _ _ us hl => el5 (P := fun us => bindArgs _ ⟨us, []⟩ = pure (List.zip _ us)) (fun _ _ _ _ _ => rfl) us hl
  have F_may_end := fun_mk (st := s_may_end) l_may_end c_may_end k_may_end
  have B_may_end := F_may_end.binds (ps := ["boxes", "end"]) fun _ _ _ _ _ _ us hl => el2 (P := fun us => bindArgs _ ⟨us, []⟩ = pure (List.zip _ us)) (fun _ _ => rfl) us hl
  have F_Measure_indent_at := fun_mk (st := s_Measure_indent_at) l_Measure_indent_at c_Measure_indent_at k_Measure_indent_at
  have B_Measure_indent_at := F_Measure_indent_at.binds (ps := ["self", "begin"]) fun _ _ _ _ _ _ us hl => el2 (P := fun us => bindArgs _ ⟨us, []⟩ = pure (List.zip _ us)) (fun _ _ => rfl) us hl
  have F_Measure_room_at := fun_mk (st := s_Measure_room_at) l_Measure_room_at c_Measure_room_at k_Measure_room_at
  have B_Measure_room_at := F_Measure_room_at.binds (ps := ["self", "begin"]) fun _ _ _ _ _ _ us hl => el2 (P := fun us => bindArgs _ ⟨us, []⟩ = pure (List.zip _ us)) (fun _ _ => rfl) us hl
  have F_best_breaking := fun_mk (st := s_best_breaking) l_best_breaking c_best_breaking k_best_breaking
  have B_best_breaking := F_best_breaking.binds (ps := ["boxes", "measure"]) fun _ _ _ _ _ _ us hl => el2 (P := fun us => bindArgs _ ⟨us, []⟩ = pure (List.zip _ us)) (fun _ _ => rfl) us hl
  have F_Line_init := fun_mk (st := s_Line_init) l_Line_init c_Line_init k_Line_init
  have B_Line_init := F_Line_init.binds (ps := ["self", "boxes", "begin", "end", "measure"]) fun _ _ _ _ _ _ us hl => el5 (P := fun us => bindArgs _ ⟨us, []⟩ = pure (List.zip _ us)) (fun _ _ _ _ _ => rfl) us hl
  have F_set_lines := fun_mk (st := s_set_lines) l_set_lines c_set_lines k_set_lines
  have B_set_lines := F_set_lines.binds (ps := ["boxes", "ends", "measure"]) fun _ _ _ _ _ _ us hl => el3 (P := fun us => bindArgs _ ⟨us, []⟩ = pure (List.zip _ us)) (fun _ _ _ => rfl) us hl
  have F_in_range := fun_mk (st := s_in_range) l_in_range c_in_range k_in_range
  have B_in_range := F_in_range.binds (ps := ["wholes", "mosts"]) fun _ _ _ _ _ _ us hl => el2 (P := fun us => bindArgs _ ⟨us, []⟩ = pure (List.zip _ us)) (fun _ _ => rfl) us hl
  have F_is_breaking := fun_mk (st := s_is_breaking) l_is_breaking c_is_breaking k_is_breaking
  have B_is_breaking := F_is_breaking.binds (ps := ["boxes", "ends"]) fun _ _ _ _ _ _ us hl => el2 (P := fun us => bindArgs _ ⟨us, []⟩ = pure (List.zip _ us)) (fun _ _ => rfl) us hl
  have F_totals := fun_mk (st := s_totals) l_totals c_totals k_totals
  have B_totals := F_totals.binds (ps := ["lines"]) fun _ _ _ _ _ _ us hl => el1 (P := fun us => bindArgs _ ⟨us, []⟩ = pure (List.zip _ us)) (fun _ => rfl) us hl
  have F_judge := fun_mk (st := s_judge) l_judge c_judge k_judge
  have B_judge := F_judge.binds (ps := ["boxes", "measure", "ends"]) fun _ _ _ _ _ _ us hl => el3 (P := fun us => bindArgs _ ⟨us, []⟩ = pure (List.zip _ us)) (fun _ _ _ => rfl) us hl
  have F_baselines := fun_mk (st := s_baselines) l_baselines c_baselines k_baselines
  have B_baselines := F_baselines.binds (ps := ["lines", "lead", "gap"]) fun _ _ _ _ _ _ us hl => el3 (P := fun us => bindArgs _ ⟨us, []⟩ = pure (List.zip _ us)) (fun _ _ _ => rfl) us hl
  have F_outer_box := fun_mk (st := s_outer_box) l_outer_box c_outer_box k_outer_box
  have B_outer_box := F_outer_box.binds (ps := ["lines", "lead", "gap"]) fun _ _ _ _ _ _ us hl => el3 (P := fun us => bindArgs _ ⟨us, []⟩ = pure (List.zip _ us)) (fun _ _ _ => rfl) us hl
  have F_most_wholes := fun_mk (st := s_most_wholes) l_most_wholes c_most_wholes k_most_wholes
  have B_most_wholes := F_most_wholes.binds (ps := ["call"]) fun _ _ _ _ _ _ us hl => el1 (P := fun us => bindArgs _ ⟨us, []⟩ = pure (List.zip _ us)) (fun _ => rfl) us hl
  have F_greedy_line := fun_mk (st := s_greedy_line) l_greedy_line c_greedy_line k_greedy_line
  have B_greedy_line := F_greedy_line.binds (ps := ["boxes", "edges", "begin", "room"]) fun _ _ _ _ _ _ us hl => el4 (P := fun us => bindArgs _ ⟨us, []⟩ = pure (List.zip _ us)) (fun _ _ _ _ => rfl) us hl
  have F_greedy_breaking := fun_mk (st := s_greedy_breaking) l_greedy_breaking c_greedy_breaking k_greedy_breaking
  have B_greedy_breaking := F_greedy_breaking.binds (ps := ["boxes", "measure"]) fun _ _ _ _ _ _ us hl => el2 (P := fun us => bindArgs _ ⟨us, []⟩ = pure (List.zip _ us)) (fun _ _ => rfl) us hl
  have F_line_numbers := fun_mk (st := s_line_numbers) l_line_numbers c_line_numbers k_line_numbers
  have B_line_numbers := F_line_numbers.binds (ps := ["lines"]) fun _ _ _ _ _ _ us hl => el1 (P := fun us => bindArgs _ ⟨us, []⟩ = pure (List.zip _ us)) (fun _ => rfl) us hl
  have F_item_edges := fun_mk (st := s_item_edges) l_item_edges c_item_edges k_item_edges
  have B_item_edges := F_item_edges.binds (ps := ["boxes", "line"]) fun _ _ _ _ _ _ us hl => el2 (P := fun us => bindArgs _ ⟨us, []⟩ = pure (List.zip _ us)) (fun _ _ => rfl) us hl
  have F_shares := fun_mk (st := s_shares) l_shares c_shares k_shares
  have B_shares := F_shares.binds (ps := ["amount", "parts"]) fun _ _ _ _ _ _ us hl => el2 (P := fun us => bindArgs _ ⟨us, []⟩ = pure (List.zip _ us)) (fun _ _ => rfl) us hl
  have F_shifts := fun_mk (st := s_shifts) l_shifts c_shifts k_shifts
  have B_shifts := F_shifts.binds (ps := ["boxes", "line"]) fun _ _ _ _ _ _ us hl => el2 (P := fun us => bindArgs _ ⟨us, []⟩ = pure (List.zip _ us)) (fun _ _ => rfl) us hl
  have F_item_places := fun_mk (st := s_item_places) l_item_places c_item_places k_item_places
  have B_item_places := F_item_places.binds (ps := ["boxes", "lines", "even", "lead", "gap"]) fun _ _ _ _ _ _ us hl => el5 (P := fun us => bindArgs _ ⟨us, []⟩ = pure (List.zip _ us)) (fun _ _ _ _ _ => rfl) us hl
  have F_answer_with_measure := fun_mk (st := s_answer_with_measure) l_answer_with_measure c_answer_with_measure k_answer_with_measure
  have B_answer_with_measure := F_answer_with_measure.binds (ps := ["boxes", "call", "wholes", "numbers"]) fun _ _ _ _ _ _ us hl => el4 (P := fun us => bindArgs _ ⟨us, []⟩ = pure (List.zip _ us)) (fun _ _ _ _ => rfl) us hl
  have F_cut := fun_mk (st := s_cut) l_cut c_cut k_cut
  have B_cut := F_cut.binds (ps := ["numbers"]) fun _ _ _ _ _ _ us hl => el1 (P := fun us => bindArgs _ ⟨us, []⟩ = pure (List.zip _ us)) (fun _ => rfl) us hl
  have F_fits := fun_mk (st := s_fits) l_fits c_fits k_fits
  have B_fits := F_fits.binds (ps := ["box"]) fun _ _ _ _ _ _ us hl => el1 (P := fun us => bindArgs _ ⟨us, []⟩ = pure (List.zip _ us)) (fun _ => rfl) us hl
  have F_numbers_refusal := fun_mk (st := s_numbers_refusal) l_numbers_refusal c_numbers_refusal k_numbers_refusal
  have B_numbers_refusal := F_numbers_refusal.binds (ps := ["numbers"]) fun _ _ _ _ _ _ us hl => el1 (P := fun us => bindArgs _ ⟨us, []⟩ = pure (List.zip _ us)) (fun _ => rfl) us hl
  have F_add := fun_mk (st := s_add) l_add c_add k_add
  have B_add := F_add.binds (ps := ["boxes", "numbers"]) fun _ _ _ _ _ _ us hl => el2 (P := fun us => bindArgs _ ⟨us, []⟩ = pure (List.zip _ us)) (fun _ _ => rfl) us hl
  have F_item_refusal := fun_mk (st := s_item_refusal) l_item_refusal c_item_refusal k_item_refusal
  have B_item_refusal := F_item_refusal.binds (ps := ["numbers"]) fun _ _ _ _ _ _ us hl => el1 (P := fun us => bindArgs _ ⟨us, []⟩ = pure (List.zip _ us)) (fun _ => rfl) us hl
  have F_put := fun_mk (st := s_put) l_put c_put k_put
  have B_put := F_put.binds (ps := ["boxes", "i", "numbers"]) fun _ _ _ _ _ _ us hl => el3 (P := fun us => bindArgs _ ⟨us, []⟩ = pure (List.zip _ us)) (fun _ _ _ => rfl) us hl
  have F_change := fun_mk (st := s_change) l_change c_change k_change
  have B_change := F_change.binds (ps := ["boxes", "i", "numbers"]) fun _ _ _ _ _ _ us hl => el3 (P := fun us => bindArgs _ ⟨us, []⟩ = pure (List.zip _ us)) (fun _ _ _ => rfl) us hl
  have F_take := fun_mk (st := s_take) l_take c_take k_take
  have B_take := F_take.binds (ps := ["boxes", "i"]) fun _ _ _ _ _ _ us hl => el2 (P := fun us => bindArgs _ ⟨us, []⟩ = pure (List.zip _ us)) (fun _ _ => rfl) us hl
  have F_row := fun_mk (st := s_row) l_row c_row k_row
  have B_row := F_row.binds (ps := ["boxes"]) fun _ _ _ _ _ _ us hl => el1 (P := fun us => bindArgs _ ⟨us, []⟩ = pure (List.zip _ us)) (fun _ => rfl) us hl
  have F_natural_width := fun_mk (st := s_natural_width) l_natural_width c_natural_width k_natural_width
  have B_natural_width := F_natural_width.binds (ps := ["boxes"]) fun _ _ _ _ _ _ us hl => el1 (P := fun us => bindArgs _ ⟨us, []⟩ = pure (List.zip _ us)) (fun _ => rfl) us hl
  have F_narrowest_measure := fun_mk (st := s_narrowest_measure) l_narrowest_measure c_narrowest_measure k_narrowest_measure
  have B_narrowest_measure := F_narrowest_measure.binds (ps := ["boxes"]) fun _ _ _ _ _ _ us hl => el1 (P := fun us => bindArgs _ ⟨us, []⟩ = pure (List.zip _ us)) (fun _ => rfl) us hl
  have F_answer := fun_mk (st := s_answer) l_answer c_answer k_answer
  have B_answer := F_answer.binds (ps := ["boxes", "call", "wholes", "numbers"]) fun _ _ _ _ _ _ us hl => el4 (P := fun us => bindArgs _ ⟨us, []⟩ = pure (List.zip _ us)) (fun _ _ _ _ => rfl) us hl
  have F_answers := fun_mk (st := s_answers) l_answers c_answers k_answers
  refine ⟨PySem.W.fnOf "answers" "answers" (defArgs s_answers) (defBody s_answers) (defScope s_answers) .none kV_answers dc_answers pm_answers an_answers cd_answers ct_answers, fun s us hu => match us, hu with | [_], _ => .of_eq rfl, fun base _ _ => ?_⟩
  have C'_Measure : Maker P w K mg base 1 "Measure" t.Measure ["self", "width", "first", "indent"] (sp_Measure K t) := ⟨_, _, ⟨mk_Measure, a_Measure_init, i_Measure_init, kc_Measure⟩, (ok_Measure_init (P := P) (w := w) (base := base) F_Measure_init T ), PySem.W.mg_of X G aC_Measure, B_Measure_init⟩
  have C'_Edges : Maker P w K mg base 1 "Edges" t.Edges ["self", "boxes"] (sp_Edges K t) := ⟨_, _, ⟨mk_Edges, a_Edges_init, i_Edges_init, kc_Edges⟩, (ok_Edges_init (P := P) (w := w) (base := base) F_Edges_init T ), PySem.W.mg_of X G aC_Edges, B_Edges_init⟩
  have C'_follow : Callee P w K mg base 1 "follow" ["line_ends"] (sp_follow K t) := ⟨_, _, (ok_follow (P := P) (w := w) (base := base) F_follow T ), PySem.W.mg_of X G a_follow, k_follow, B_follow⟩
  have C'_best_line : Callee P w K mg base 1 "best_line" ["edges", "begin", "room", "ends", "rests"] (sp_best_line K t) := ⟨_, _, (ok_best_line (P := P) (w := w) (base := base) F_best_line T ), PySem.W.mg_of X G a_best_line, k_best_line, B_best_line⟩
  have C'_may_end : Callee P w K mg base 1 "may_end" ["boxes", "end"] (sp_may_end K t) := ⟨_, _, (ok_may_end (P := P) (w := w) (base := base) F_may_end T ), PySem.W.mg_of X G a_may_end, k_may_end, B_may_end⟩
  have M'_Measure_indent_at : MethF P w K mg base 1 "indent_at" t.Measure ["self", "begin"] (sp_Measure_indent_at K t) := ⟨_, _, ⟨pg_Measure, hd_Measure, po_Measure, sa_Measure⟩, ⟨a_Measure_indent_at, i_Measure_indent_at, k_Measure_indent_at⟩, (ok_Measure_indent_at (P := P) (w := w) (base := base) F_Measure_indent_at T ), B_Measure_indent_at⟩
  have M'_Measure_room_at : MethF P w K mg base 2 "room_at" t.Measure ["self", "begin"] (sp_Measure_room_at K t) := ⟨_, _, ⟨pg_Measure, hd_Measure, po_Measure, sa_Measure⟩, ⟨a_Measure_room_at, i_Measure_room_at, k_Measure_room_at⟩, (ok_Measure_room_at (P := P) (w := w) (base := base) F_Measure_room_at T M'_Measure_indent_at), B_Measure_room_at⟩
  have C'_best_breaking : Callee P w K mg base 3 "best_breaking" ["boxes", "measure"] (sp_best_breaking K t) := ⟨_, _, (ok_best_breaking (P := P) (w := w) (base := base) F_best_breaking T C'_Edges C'_follow C'_best_line C'_may_end M'_Measure_room_at), PySem.W.mg_of X G a_best_breaking, k_best_breaking, B_best_breaking⟩
  have C'_Line : Maker P w K mg base 3 "Line" t.Line ["self", "boxes", "begin", "end", "measure"] (sp_Line K t) := ⟨_, _, ⟨mk_Line, a_Line_init, i_Line_init, kc_Line⟩, (ok_Line_init (P := P) (w := w) (base := base) F_Line_init T M'_Measure_indent_at M'_Measure_room_at), PySem.W.mg_of X G aC_Line, B_Line_init⟩
  have C'_set_lines : Callee P w K mg base 5 "set_lines" ["boxes", "ends", "measure"] (sp_set_lines K t) := ⟨_, _, (ok_set_lines (P := P) (w := w) (base := base) F_set_lines T C'_Line), PySem.W.mg_of X G a_set_lines, k_set_lines, B_set_lines⟩
  have C'_in_range : Callee P w K mg base 1 "in_range" ["wholes", "mosts"] (sp_in_range K t) := ⟨_, _, (ok_in_range (P := P) (w := w) (base := base) F_in_range T ), PySem.W.mg_of X G a_in_range, k_in_range, B_in_range⟩
  have C'_is_breaking : Callee P w K mg base 2 "is_breaking" ["boxes", "ends"] (sp_is_breaking K t) := ⟨_, _, (ok_is_breaking (P := P) (w := w) (base := base) F_is_breaking T C'_may_end), PySem.W.mg_of X G a_is_breaking, k_is_breaking, B_is_breaking⟩
  have C'_totals : Callee P w K mg base 1 "totals" ["lines"] (sp_totals K t) := ⟨_, _, (ok_totals (P := P) (w := w) (base := base) F_totals T ), PySem.W.mg_of X G a_totals, k_totals, B_totals⟩
  have C'_judge : Callee P w K mg base 6 "judge" ["boxes", "measure", "ends"] (sp_judge K t) := ⟨_, _, (ok_judge (P := P) (w := w) (base := base) F_judge T C'_is_breaking C'_totals C'_set_lines), PySem.W.mg_of X G a_judge, k_judge, B_judge⟩
  have C'_baselines : Callee P w K mg base 1 "baselines" ["lines", "lead", "gap"] (sp_baselines K t) := ⟨_, _, (ok_baselines (P := P) (w := w) (base := base) F_baselines T ), PySem.W.mg_of X G a_baselines, k_baselines, B_baselines⟩
  have C'_outer_box : Callee P w K mg base 2 "outer_box" ["lines", "lead", "gap"] (sp_outer_box K t) := ⟨_, _, (ok_outer_box (P := P) (w := w) (base := base) F_outer_box T C'_baselines), PySem.W.mg_of X G a_outer_box, k_outer_box, B_outer_box⟩
  have C'_most_wholes : Callee P w K mg base 1 "most_wholes" ["call"] (sp_most_wholes K t) := ⟨_, _, (ok_most_wholes (P := P) (w := w) (base := base) F_most_wholes T ), PySem.W.mg_of X G a_most_wholes, k_most_wholes, B_most_wholes⟩
  have C'_greedy_line : Callee P w K mg base 2 "greedy_line" ["boxes", "edges", "begin", "room"] (sp_greedy_line K t) := ⟨_, _, (ok_greedy_line (P := P) (w := w) (base := base) F_greedy_line T C'_may_end), PySem.W.mg_of X G a_greedy_line, k_greedy_line, B_greedy_line⟩
  have C'_greedy_breaking : Callee P w K mg base 3 "greedy_breaking" ["boxes", "measure"] (sp_greedy_breaking K t) := ⟨_, _, (ok_greedy_breaking (P := P) (w := w) (base := base) F_greedy_breaking T C'_Edges C'_greedy_line M'_Measure_room_at), PySem.W.mg_of X G a_greedy_breaking, k_greedy_breaking, B_greedy_breaking⟩
  have C'_line_numbers : Callee P w K mg base 1 "line_numbers" ["lines"] (sp_line_numbers K t) := ⟨_, _, (ok_line_numbers (P := P) (w := w) (base := base) F_line_numbers T ), PySem.W.mg_of X G a_line_numbers, k_line_numbers, B_line_numbers⟩
  have C'_item_edges : Callee P w K mg base 1 "item_edges" ["boxes", "line"] (sp_item_edges K t) := ⟨_, _, (ok_item_edges (P := P) (w := w) (base := base) F_item_edges T ), PySem.W.mg_of X G a_item_edges, k_item_edges, B_item_edges⟩
  have C'_shares : Callee P w K mg base 1 "shares" ["amount", "parts"] (sp_shares K t) := ⟨_, _, (ok_shares (P := P) (w := w) (base := base) F_shares T ), PySem.W.mg_of X G a_shares, k_shares, B_shares⟩
  have C'_shifts : Callee P w K mg base 2 "shifts" ["boxes", "line"] (sp_shifts K t) := ⟨_, _, (ok_shifts (P := P) (w := w) (base := base) F_shifts T C'_shares), PySem.W.mg_of X G a_shifts, k_shifts, B_shifts⟩
  have C'_item_places : Callee P w K mg base 3 "item_places" ["boxes", "lines", "even", "lead", "gap"] (sp_item_places K t) := ⟨_, _, (ok_item_places (P := P) (w := w) (base := base) F_item_places T C'_baselines C'_item_edges C'_shifts), PySem.W.mg_of X G a_item_places, k_item_places, B_item_places⟩
  have C'_answer_with_measure : Callee P w K mg base 7 "answer_with_measure" ["boxes", "call", "wholes", "numbers"] (sp_answer_with_measure K t) := ⟨_, _, (ok_answer_with_measure (P := P) (w := w) (base := base) F_answer_with_measure T C'_Measure C'_best_breaking C'_set_lines C'_in_range C'_judge C'_outer_box C'_most_wholes C'_greedy_breaking C'_totals C'_line_numbers C'_item_places), PySem.W.mg_of X G a_answer_with_measure, k_answer_with_measure, B_answer_with_measure⟩
  have C'_cut : Callee P w K mg base 1 "cut" ["numbers"] (sp_cut K t) := ⟨_, _, (ok_cut (P := P) (w := w) (base := base) F_cut T ), PySem.W.mg_of X G a_cut, k_cut, B_cut⟩
  have C'_fits : Callee P w K mg base 1 "fits" ["box"] (sp_fits K t) := ⟨_, _, (ok_fits (P := P) (w := w) (base := base) F_fits T ), PySem.W.mg_of X G a_fits, k_fits, B_fits⟩
  have C'_numbers_refusal : Callee P w K mg base 2 "numbers_refusal" ["numbers"] (sp_numbers_refusal K t) := ⟨_, _, (ok_numbers_refusal (P := P) (w := w) (base := base) F_numbers_refusal T C'_cut C'_fits), PySem.W.mg_of X G a_numbers_refusal, k_numbers_refusal, B_numbers_refusal⟩
  have C'_add : Callee P w K mg base 3 "add" ["boxes", "numbers"] (sp_add K t) := ⟨_, _, (ok_add (P := P) (w := w) (base := base) F_add T C'_numbers_refusal C'_cut), PySem.W.mg_of X G a_add, k_add, B_add⟩
  have C'_item_refusal : Callee P w K mg base 3 "item_refusal" ["numbers"] (sp_item_refusal K t) := ⟨_, _, (ok_item_refusal (P := P) (w := w) (base := base) F_item_refusal T C'_numbers_refusal), PySem.W.mg_of X G a_item_refusal, k_item_refusal, B_item_refusal⟩
  have C'_put : Callee P w K mg base 4 "put" ["boxes", "i", "numbers"] (sp_put K t) := ⟨_, _, (ok_put (P := P) (w := w) (base := base) F_put T C'_item_refusal), PySem.W.mg_of X G a_put, k_put, B_put⟩
  have C'_change : Callee P w K mg base 4 "change" ["boxes", "i", "numbers"] (sp_change K t) := ⟨_, _, (ok_change (P := P) (w := w) (base := base) F_change T C'_item_refusal), PySem.W.mg_of X G a_change, k_change, B_change⟩
  have C'_take : Callee P w K mg base 1 "take" ["boxes", "i"] (sp_take K t) := ⟨_, _, (ok_take (P := P) (w := w) (base := base) F_take T ), PySem.W.mg_of X G a_take, k_take, B_take⟩
  have C'_row : Callee P w K mg base 1 "row" ["boxes"] (sp_row K t) := ⟨_, _, (ok_row (P := P) (w := w) (base := base) F_row T ), PySem.W.mg_of X G a_row, k_row, B_row⟩
  have C'_natural_width : Callee P w K mg base 3 "natural_width" ["boxes"] (sp_natural_width K t) := ⟨_, _, (ok_natural_width (P := P) (w := w) (base := base) F_natural_width T C'_Edges), PySem.W.mg_of X G a_natural_width, k_natural_width, B_natural_width⟩
  have C'_narrowest_measure : Callee P w K mg base 3 "narrowest_measure" ["boxes"] (sp_narrowest_measure K t) := ⟨_, _, (ok_narrowest_measure (P := P) (w := w) (base := base) F_narrowest_measure T C'_Edges C'_may_end), PySem.W.mg_of X G a_narrowest_measure, k_narrowest_measure, B_narrowest_measure⟩
  have C'_answer : Callee P w K mg base 8 "answer" ["boxes", "call", "wholes", "numbers"] (sp_answer K t) := ⟨_, _, (ok_answer (P := P) (w := w) (base := base) F_answer T C'_answer_with_measure C'_add C'_put C'_change C'_take C'_row C'_natural_width C'_narrowest_measure), PySem.W.mg_of X G a_answer, k_answer, B_answer⟩
  exact (ok_answers (P := P) (w := w) (base := base) F_answers T C'_answer)
end BX
open PySem PySem.W PyProof.Rows
set_option maxRecDepth 100000 in
set_option maxHeartbeats 0 in
theorem PySem.Challenge.cw_boxlines_s01_answers_holds : PySem.Challenge.rw_boxlines_s01_answers.Holds := by
  w_on; k_headS; (case hw => exact ⟨[.list [.int 4]], by decide +kernel, by decide +kernel⟩)
  k_fillS
  refine L2.walk_specK (r := PySem.Challenge.rw_boxlines_s01_answers) (k := 9) (CX := L2.CX0) (ps := ["calls"]) (sp := BX.sp_answers) (by decide +kernel) rfl rfl ⟨rfl, by decide, by decide⟩ (fun w h Y => PySem.W.kIn_of Y) ?F ?S (fun _ _ _ _ z => z)
  case F =>
    intro w mg fa h Y KX G hmg
    refine' BX.all_mk KX G hmg ?aC_Edges ?aC_Line ?aC_Measure ?g_WIDTH ?g_HEIGHT ?g_DEPTH ?g_SPACE ?g_STRETCH ?g_SHRINK ?g_COST ?g_NO_BREAK ?g_LINE_UNIT ?g_COST_UNIT ?g_OVERFULL_UNIT ?g_HEAVIEST ?g_ITEM_SIZE ?g_MOST_ITEMS ?g_LEAST_NUMBERS ?l_LEAST_NUMBERS ?t_LEAST_NUMBERS ?d_LEAST_NUMBERS ?v_LEAST_NUMBERS ?g_MOST_NUMBER ?g_DONE ?g_WRONG_COUNT ?g_WRONG_NUMBER ?g_TOO_MANY ?g_WRONG_MEASURE ?g_NO_ITEM ?g_NO_BREAKING ?g_ADD ?g_PUT ?g_CHANGE ?g_TAKE ?g_ROW ?g_BEST ?g_WORTH ?g_JUDGE ?g_GREEDY ?g_LINES ?g_PLACES ?g_BOX ?g_NATURAL ?g_NARROWEST ?g_WHOLE_COUNTS ?l_WHOLE_COUNTS ?t_WHOLE_COUNTS ?d_WHOLE_COUNTS ?v_WHOLE_COUNTS ?g_HAS_LIST ?l_HAS_LIST ?t_HAS_LIST ?d_HAS_LIST ?v_HAS_LIST ?g_MOST_OF_MEASURE ?l_MOST_OF_MEASURE ?t_MOST_OF_MEASURE ?d_MOST_OF_MEASURE ?v_MOST_OF_MEASURE ?g_MOST_OF_PLACES ?l_MOST_OF_PLACES ?t_MOST_OF_PLACES ?d_MOST_OF_PLACES ?v_MOST_OF_PLACES ?g_MOST_OF_BOX ?l_MOST_OF_BOX ?t_MOST_OF_BOX ?d_MOST_OF_BOX ?v_MOST_OF_BOX ?b_len ?b_range ?b_zip ?b_tuple ?b_max ?b_min ?b_sum ?b_enumerate ?a_Measure_init ?i_Measure_init ?l_Measure_init ?c_Measure_init ?k_Measure_init ?a_Edges_init ?i_Edges_init ?l_Edges_init ?c_Edges_init ?k_Edges_init ?a_follow ?l_follow ?c_follow ?k_follow ?a_best_line ?l_best_line ?c_best_line ?k_best_line ?a_may_end ?l_may_end ?c_may_end ?k_may_end ?a_Measure_indent_at ?i_Measure_indent_at ?l_Measure_indent_at ?c_Measure_indent_at ?k_Measure_indent_at ?a_Measure_room_at ?i_Measure_room_at ?l_Measure_room_at ?c_Measure_room_at ?k_Measure_room_at ?a_best_breaking ?l_best_breaking ?c_best_breaking ?k_best_breaking ?a_Line_init ?i_Line_init ?l_Line_init ?c_Line_init ?k_Line_init ?a_set_lines ?l_set_lines ?c_set_lines ?k_set_lines ?a_in_range ?l_in_range ?c_in_range ?k_in_range ?a_is_breaking ?l_is_breaking ?c_is_breaking ?k_is_breaking ?a_totals ?l_totals ?c_totals ?k_totals ?a_judge ?l_judge ?c_judge ?k_judge ?a_baselines ?l_baselines ?c_baselines ?k_baselines ?a_outer_box ?l_outer_box ?c_outer_box ?k_outer_box ?a_most_wholes ?l_most_wholes ?c_most_wholes ?k_most_wholes ?a_greedy_line ?l_greedy_line ?c_greedy_line ?k_greedy_line ?a_greedy_breaking ?l_greedy_breaking ?c_greedy_breaking ?k_greedy_breaking ?a_line_numbers ?l_line_numbers ?c_line_numbers ?k_line_numbers ?a_item_edges ?l_item_edges ?c_item_edges ?k_item_edges ?a_shares ?l_shares ?c_shares ?k_shares ?a_shifts ?l_shifts ?c_shifts ?k_shifts ?a_item_places ?l_item_places ?c_item_places ?k_item_places ?a_answer_with_measure ?l_answer_with_measure ?c_answer_with_measure ?k_answer_with_measure ?a_cut ?l_cut ?c_cut ?k_cut ?a_fits ?l_fits ?c_fits ?k_fits ?a_numbers_refusal ?l_numbers_refusal ?c_numbers_refusal ?k_numbers_refusal ?a_add ?l_add ?c_add ?k_add ?a_item_refusal ?l_item_refusal ?c_item_refusal ?k_item_refusal ?a_put ?l_put ?c_put ?k_put ?a_change ?l_change ?c_change ?k_change ?a_take ?l_take ?c_take ?k_take ?a_row ?l_row ?c_row ?k_row ?a_natural_width ?l_natural_width ?c_natural_width ?k_natural_width ?a_narrowest_measure ?l_narrowest_measure ?c_narrowest_measure ?k_narrowest_measure ?a_answer ?l_answer ?c_answer ?k_answer ?a_answers ?l_answers ?c_answers ?k_answers ?pg_Edges ?hd_Edges ?po_Edges ?sa_Edges ?mk_Edges ?kc_Edges ?n_Edges_begins ?n_Edges_stops ?n_Edges_tight_begins ?n_Edges_tight_stops ?pg_Line ?hd_Line ?po_Line ?sa_Line ?mk_Line ?kc_Line ?n_Line_begin ?n_Line_end ?n_Line_is_last ?n_Line_indent ?n_Line_natural ?n_Line_stretch ?n_Line_shrink ?n_Line_slack ?n_Line_overfull ?n_Line_height ?n_Line_depth ?n_Line_cost ?pg_Measure ?hd_Measure ?po_Measure ?sa_Measure ?mk_Measure ?kc_Measure ?n_Measure_width ?n_Measure_first ?n_Measure_indent
    (case aC_Edges => k_is)
    (case aC_Line => k_is)
    (case aC_Measure => k_is)
    (case g_WIDTH => k_is)
    (case g_HEIGHT => k_is)
    (case g_DEPTH => k_is)
    (case g_SPACE => k_is)
    (case g_STRETCH => k_is)
    (case g_SHRINK => k_is)
    (case g_COST => k_is)
    (case g_NO_BREAK => k_is)
    (case g_LINE_UNIT => k_is)
    (case g_COST_UNIT => k_is)
    (case g_OVERFULL_UNIT => k_is)
    (case g_HEAVIEST => k_is)
    (case g_ITEM_SIZE => k_is)
    (case g_MOST_ITEMS => k_is)
    (case g_LEAST_NUMBERS => k_is)
    (case l_LEAST_NUMBERS => k_is)
    (case t_LEAST_NUMBERS => rfl)
    (case d_LEAST_NUMBERS => rfl)
    (case v_LEAST_NUMBERS => exact (.cons ⟨_, rfl⟩ (.cons ⟨_, rfl⟩ (.cons ⟨_, rfl⟩ (.cons ⟨_, rfl⟩ (.cons ⟨_, rfl⟩ (.cons ⟨_, rfl⟩ (.cons ⟨_, rfl⟩ .nil))))))))
    (case g_MOST_NUMBER => k_is)
    (case g_DONE => k_is)
    (case g_WRONG_COUNT => k_is)
    (case g_WRONG_NUMBER => k_is)
    (case g_TOO_MANY => k_is)
    (case g_WRONG_MEASURE => k_is)
    (case g_NO_ITEM => k_is)
    (case g_NO_BREAKING => k_is)
    (case g_ADD => k_is)
    (case g_PUT => k_is)
    (case g_CHANGE => k_is)
    (case g_TAKE => k_is)
    (case g_ROW => k_is)
    (case g_BEST => k_is)
    (case g_WORTH => k_is)
    (case g_JUDGE => k_is)
    (case g_GREEDY => k_is)
    (case g_LINES => k_is)
    (case g_PLACES => k_is)
    (case g_BOX => k_is)
    (case g_NATURAL => k_is)
    (case g_NARROWEST => k_is)
    (case g_WHOLE_COUNTS => k_is)
    (case l_WHOLE_COUNTS => k_is)
    (case t_WHOLE_COUNTS => rfl)
    (case d_WHOLE_COUNTS => rfl)
    (case v_WHOLE_COUNTS => exact (.cons ⟨_, rfl⟩ (.cons ⟨_, rfl⟩ (.cons ⟨_, rfl⟩ (.cons ⟨_, rfl⟩ (.cons ⟨_, rfl⟩ (.cons ⟨_, rfl⟩ (.cons ⟨_, rfl⟩ (.cons ⟨_, rfl⟩ (.cons ⟨_, rfl⟩ (.cons ⟨_, rfl⟩ (.cons ⟨_, rfl⟩ (.cons ⟨_, rfl⟩ (.cons ⟨_, rfl⟩ (.cons ⟨_, rfl⟩ .nil)))))))))))))))
    (case g_HAS_LIST => k_is)
    (case l_HAS_LIST => k_is)
    (case t_HAS_LIST => rfl)
    (case d_HAS_LIST => rfl)
    (case v_HAS_LIST => exact (.cons rfl (.cons rfl (.cons rfl (.cons rfl (.cons rfl (.cons rfl (.cons rfl (.cons rfl (.cons rfl (.cons rfl (.cons rfl (.cons rfl (.cons rfl (.cons rfl .nil)))))))))))))))
    (case g_MOST_OF_MEASURE => k_is)
    (case l_MOST_OF_MEASURE => k_is)
    (case t_MOST_OF_MEASURE => rfl)
    (case d_MOST_OF_MEASURE => rfl)
    (case v_MOST_OF_MEASURE => exact (.cons ⟨_, rfl⟩ (.cons ⟨_, rfl⟩ (.cons ⟨_, rfl⟩ .nil))))
    (case g_MOST_OF_PLACES => k_is)
    (case l_MOST_OF_PLACES => k_is)
    (case t_MOST_OF_PLACES => rfl)
    (case d_MOST_OF_PLACES => rfl)
    (case v_MOST_OF_PLACES => exact (.cons ⟨_, rfl⟩ (.cons ⟨_, rfl⟩ (.cons ⟨_, rfl⟩ (.cons ⟨_, rfl⟩ (.cons ⟨_, rfl⟩ (.cons ⟨_, rfl⟩ .nil)))))))
    (case g_MOST_OF_BOX => k_is)
    (case l_MOST_OF_BOX => k_is)
    (case t_MOST_OF_BOX => rfl)
    (case d_MOST_OF_BOX => rfl)
    (case v_MOST_OF_BOX => exact (.cons ⟨_, rfl⟩ (.cons ⟨_, rfl⟩ (.cons ⟨_, rfl⟩ (.cons ⟨_, rfl⟩ (.cons ⟨_, rfl⟩ .nil))))))
    (case b_len => k_is)
    (case b_range => k_is)
    (case b_zip => k_is)
    (case b_tuple => k_is)
    (case b_max => k_is)
    (case b_min => k_is)
    (case b_sum => k_is)
    (case b_enumerate => k_is)
    (case a_Measure_init => k_is)
    (case i_Measure_init => k_is)
    (case l_Measure_init => k_is)
    (case c_Measure_init => k_is)
    (case k_Measure_init => k_is)
    (case a_Edges_init => k_is)
    (case i_Edges_init => k_is)
    (case l_Edges_init => k_is)
    (case c_Edges_init => k_is)
    (case k_Edges_init => k_is)
    (case a_follow => k_is)
    (case l_follow => k_is)
    (case c_follow => k_is)
    (case k_follow => k_is)
    (case a_best_line => k_is)
    (case l_best_line => k_is)
    (case c_best_line => k_is)
    (case k_best_line => k_is)
    (case a_may_end => k_is)
    (case l_may_end => k_is)
    (case c_may_end => k_is)
    (case k_may_end => k_is)
    (case a_Measure_indent_at => k_is)
    (case i_Measure_indent_at => k_is)
    (case l_Measure_indent_at => k_is)
    (case c_Measure_indent_at => k_is)
    (case k_Measure_indent_at => k_is)
    (case a_Measure_room_at => k_is)
    (case i_Measure_room_at => k_is)
    (case l_Measure_room_at => k_is)
    (case c_Measure_room_at => k_is)
    (case k_Measure_room_at => k_is)
    (case a_best_breaking => k_is)
    (case l_best_breaking => k_is)
    (case c_best_breaking => k_is)
    (case k_best_breaking => k_is)
    (case a_Line_init => k_is)
    (case i_Line_init => k_is)
    (case l_Line_init => k_is)
    (case c_Line_init => k_is)
    (case k_Line_init => k_is)
    (case a_set_lines => k_is)
    (case l_set_lines => k_is)
    (case c_set_lines => k_is)
    (case k_set_lines => k_is)
    (case a_in_range => k_is)
    (case l_in_range => k_is)
    (case c_in_range => k_is)
    (case k_in_range => k_is)
    (case a_is_breaking => k_is)
    (case l_is_breaking => k_is)
    (case c_is_breaking => k_is)
    (case k_is_breaking => k_is)
    (case a_totals => k_is)
    (case l_totals => k_is)
    (case c_totals => k_is)
    (case k_totals => k_is)
    (case a_judge => k_is)
    (case l_judge => k_is)
    (case c_judge => k_is)
    (case k_judge => k_is)
    (case a_baselines => k_is)
    (case l_baselines => k_is)
    (case c_baselines => k_is)
    (case k_baselines => k_is)
    (case a_outer_box => k_is)
    (case l_outer_box => k_is)
    (case c_outer_box => k_is)
    (case k_outer_box => k_is)
    (case a_most_wholes => k_is)
    (case l_most_wholes => k_is)
    (case c_most_wholes => k_is)
    (case k_most_wholes => k_is)
    (case a_greedy_line => k_is)
    (case l_greedy_line => k_is)
    (case c_greedy_line => k_is)
    (case k_greedy_line => k_is)
    (case a_greedy_breaking => k_is)
    (case l_greedy_breaking => k_is)
    (case c_greedy_breaking => k_is)
    (case k_greedy_breaking => k_is)
    (case a_line_numbers => k_is)
    (case l_line_numbers => k_is)
    (case c_line_numbers => k_is)
    (case k_line_numbers => k_is)
    (case a_item_edges => k_is)
    (case l_item_edges => k_is)
    (case c_item_edges => k_is)
    (case k_item_edges => k_is)
    (case a_shares => k_is)
    (case l_shares => k_is)
    (case c_shares => k_is)
    (case k_shares => k_is)
    (case a_shifts => k_is)
    (case l_shifts => k_is)
    (case c_shifts => k_is)
    (case k_shifts => k_is)
    (case a_item_places => k_is)
    (case l_item_places => k_is)
    (case c_item_places => k_is)
    (case k_item_places => k_is)
    (case a_answer_with_measure => k_is)
    (case l_answer_with_measure => k_is)
    (case c_answer_with_measure => k_is)
    (case k_answer_with_measure => k_is)
    (case a_cut => k_is)
    (case l_cut => k_is)
    (case c_cut => k_is)
    (case k_cut => k_is)
    (case a_fits => k_is)
    (case l_fits => k_is)
    (case c_fits => k_is)
    (case k_fits => k_is)
    (case a_numbers_refusal => k_is)
    (case l_numbers_refusal => k_is)
    (case c_numbers_refusal => k_is)
    (case k_numbers_refusal => k_is)
    (case a_add => k_is)
    (case l_add => k_is)
    (case c_add => k_is)
    (case k_add => k_is)
    (case a_item_refusal => k_is)
    (case l_item_refusal => k_is)
    (case c_item_refusal => k_is)
    (case k_item_refusal => k_is)
    (case a_put => k_is)
    (case l_put => k_is)
    (case c_put => k_is)
    (case k_put => k_is)
    (case a_change => k_is)
    (case l_change => k_is)
    (case c_change => k_is)
    (case k_change => k_is)
    (case a_take => k_is)
    (case l_take => k_is)
    (case c_take => k_is)
    (case k_take => k_is)
    (case a_row => k_is)
    (case l_row => k_is)
    (case c_row => k_is)
    (case k_row => k_is)
    (case a_natural_width => k_is)
    (case l_natural_width => k_is)
    (case c_natural_width => k_is)
    (case k_natural_width => k_is)
    (case a_narrowest_measure => k_is)
    (case l_narrowest_measure => k_is)
    (case c_narrowest_measure => k_is)
    (case k_narrowest_measure => k_is)
    (case a_answer => k_is)
    (case l_answer => k_is)
    (case c_answer => k_is)
    (case k_answer => k_is)
    (case a_answers => k_is)
    (case l_answers => k_is)
    (case c_answers => k_is)
    (case k_answers => k_is)
    (case pg_Edges => k_is)
    (case hd_Edges => k_is)
    (case po_Edges => k_is)
    (case sa_Edges => k_is)
    (case mk_Edges => k_is)
    (case kc_Edges => k_is)
    (case n_Edges_begins => k_is)
    (case n_Edges_stops => k_is)
    (case n_Edges_tight_begins => k_is)
    (case n_Edges_tight_stops => k_is)
    (case pg_Line => k_is)
    (case hd_Line => k_is)
    (case po_Line => k_is)
    (case sa_Line => k_is)
    (case mk_Line => k_is)
    (case kc_Line => k_is)
    (case n_Line_begin => k_is)
    (case n_Line_end => k_is)
    (case n_Line_is_last => k_is)
    (case n_Line_indent => k_is)
    (case n_Line_natural => k_is)
    (case n_Line_stretch => k_is)
    (case n_Line_shrink => k_is)
    (case n_Line_slack => k_is)
    (case n_Line_overfull => k_is)
    (case n_Line_height => k_is)
    (case n_Line_depth => k_is)
    (case n_Line_cost => k_is)
    (case pg_Measure => k_is)
    (case hd_Measure => k_is)
    (case po_Measure => k_is)
    (case sa_Measure => k_is)
    (case mk_Measure => k_is)
    (case kc_Measure => k_is)
    (case n_Measure_width => k_is)
    (case n_Measure_first => k_is)
    (case n_Measure_indent => k_is)
  case S =>
    intro K H xs a hO hwi hask hx
    cases hx with
    | cons h1 h2 =>
      cases h2
      cases h1 with
      | lst hs ha =>
        have e := L2.ints_dw a.1 _ ha
        subst e
        have q : ((Codec.inLen 0 17000 a.1 && a.1.all (Codec.inInt (-1000000000000000000) 1000000000000000000)) && true) = true := hwi
        rw [Bool.and_eq_true, Bool.and_eq_true] at q
        exact ⟨_, a.1, rfl, hs, (Codec.inNat_iff.mp q.1.1).2, hask, fun H' p hp => .lst (L2.SqL.of hp) (L2.dw_ints _)⟩

