import PyProof.Rows.All
import Wide.All
import OpenK.AllK
import Wide.FinOn
import Lean
import PyProof.EqAt
import PyProof.EqKinds
import PyProof.TupleCall
import PyProof.ZipIter
import PyProof.NeKinds
import PySem.Challenge.RW_mixposts_k25_lines_that_say_nothing
import PyProof.Logic
import PyProof.StationsW
import PyProof.ExcBaseAll.ValueError
import PyProof.ExcInit
import PyProof.ExcClass2
import PyProof.InstStoreFacts
import PyProof.ExcAttrAll.ValueError
import KE.KDictList
import PyProof.StrWalks
import PyProof.ConsumeWalk
import PyProof.EnumFor
import PyProof.EnumStmt
import PyProof.StrLawsIdx
import PyProof.SliceStr2
import PyProof.MeetsStr
import PyProof.FactsAll.str_5
import PyProof.StrBlockL
import PyProof.StrLawsTight
import PyProof.FitsReplace
import PyProof.Rows.StrItems
import KE.KIntText
import PyProof.Rows.StrInSeq3
import KE.KDictOf
import PyProof.AttrMissHeap
import KE.KDictSum
import PyProof.Rows.SortWalk
import PyProof.StrOps2
set_option Elab.async false
set_option linter.all false
set_option maxRecDepth 100000
set_option maxHeartbeats 4000000
set_option maxRecDepth 100000
/-! The head would lay a copy of each heap on the way, with a proof of its own that it is the same: some forty megabytes that the kernel does not need. Where a name is taken, it lays none. -/
theorem PySem.W.Fast.tw10278142443108647381 : True := trivial
theorem PySem.W.Fast.tw10796772584575941000 : True := trivial
theorem PySem.W.Fast.tw12001520380217752261 : True := trivial
theorem PySem.W.Fast.tw12516346687778984633 : True := trivial
theorem PySem.W.Fast.tw13321335291001203425 : True := trivial
theorem PySem.W.Fast.tw13544496006957174487 : True := trivial
theorem PySem.W.Fast.tw15496681026798632361 : True := trivial
theorem PySem.W.Fast.tw16244272451762097041 : True := trivial
theorem PySem.W.Fast.tw16778452552166200747 : True := trivial
theorem PySem.W.Fast.tw17054515645242101625 : True := trivial
theorem PySem.W.Fast.tw17724751006305485995 : True := trivial
theorem PySem.W.Fast.tw18152843473886091795 : True := trivial
theorem PySem.W.Fast.tw1893888036507180608 : True := trivial
theorem PySem.W.Fast.tw2605391967817377702 : True := trivial
theorem PySem.W.Fast.tw4249619551584016885 : True := trivial
theorem PySem.W.Fast.tw5517904735503592357 : True := trivial
theorem PySem.W.Fast.tw5579447034779652772 : True := trivial
theorem PySem.W.Fast.tw5783443535323805315 : True := trivial
theorem PySem.W.Fast.tw6048593166007726632 : True := trivial
theorem PySem.W.Fast.tw6112212123038954210 : True := trivial
theorem PySem.W.Fast.tw6189655812239309906 : True := trivial
theorem PySem.W.Fast.tw6913657007437931344 : True := trivial
theorem PySem.W.Fast.tw8176421136741549545 : True := trivial
namespace L2
open PySem PySem.Spec PyProof.Rows
abbrev Key := Sum Int Str
def keyIs : Key → Value → Bool
  | .inl k, v => Value.isInt k v
  | .inr x, v => Value.isStrOf x v
def keyH (w : World) : Key → Int
  | .inl k => hashInt k
  | .inr x => hashStr w x
theorem keyIs_shape : ∀ {k : Key} {v : Value}, keyIs k v = true → (∃ i t, k = Sum.inl i ∧ v = Value.int i t) ∨ (∃ x t, k = Sum.inr x ∧ v = Value.str x t)
  | .inl i, v, h => by
    obtain ⟨t, e⟩ := Value.isInt_shape (k := i) (v := v) h
    exact .inl ⟨i, t, rfl, e⟩
  | .inr x, v, h => by
    obtain ⟨t, e⟩ := Value.isStrOf_shape (x := x) (v := v) h
    exact .inr ⟨x, t, rfl, e⟩
theorem keyIs_int (i : Int) (t : Tok) : keyIs (.inl i) (.int i t) = true := by simp [keyIs, Value.isInt]
theorem keyIs_str (x : Str) (t : Tok) : keyIs (.inr x) (.str x t) = true := by simp [keyIs, Value.isStrOf]
theorem key_ll (a b : Int) : decide ((Sum.inl a : Key) = Sum.inl b) = (a == b) := by
  by_cases e : a = b
  · subst e; simp
  · have h : ¬ (Sum.inl a : Key) = Sum.inl b := fun q => e (Sum.inl.inj q)
    rw [decide_eq_false h]
    exact (beq_eq_false_iff_ne.mpr e).symm
theorem key_rr (a b : Str) : decide ((Sum.inr a : Key) = Sum.inr b) = decide (a = b) := by
  by_cases e : a = b
  · subst e; simp
  · have h : ¬ (Sum.inr a : Key) = Sum.inr b := fun q => e (Sum.inr.inj q)
    rw [decide_eq_false h, decide_eq_false e]
theorem key_lr (a : Int) (b : Str) : decide ((Sum.inl a : Key) = Sum.inr b) = false := decide_eq_false (fun q => nomatch q)
theorem key_rl (a : Str) (b : Int) : decide ((Sum.inr a : Key) = Sum.inl b) = false := decide_eq_false (fun q => nomatch q)
def mixKind (prog : Program) (w : World) : PySem.KeyKind prog w Key where
  is := keyIs
  hash := keyH w
  inj := fun v a b ha hb => by
    rcases keyIs_shape ha with ⟨i, t, rfl, rfl⟩ | ⟨x, t, rfl, rfl⟩
    · rcases keyIs_shape hb with ⟨j, u, rfl, e⟩ | ⟨y, u, rfl, e⟩
      · injection e with e1 _; rw [e1]
      · exact nomatch e
    · rcases keyIs_shape hb with ⟨j, u, rfl, e⟩ | ⟨y, u, rfl, e⟩
      · exact nomatch e
      · injection e with e1 _; rw [e1]
  byValue := fun k v h => by
    rcases keyIs_shape h with ⟨i, t, rfl, rfl⟩ | ⟨x, t, rfl, rfl⟩ <;> rfl
  pyHash := fun hv h => by
    rcases keyIs_shape hv with ⟨i, t, rfl, rfl⟩ | ⟨x, t, rfl, rfl⟩
    · exact wpAny_pyHash_int h
    · exact wpAny_pyHash_str h
  eqBool := fun hu hv h => by
    rcases keyIs_shape hu with ⟨i, t, rfl, rfl⟩ | ⟨x, t, rfl, rfl⟩
    · rcases keyIs_shape hv with ⟨j, u, rfl, rfl⟩ | ⟨y, u, rfl, rfl⟩
      · rw [key_ll] at h; exact wpAny_eqBool_int h
      · rw [key_lr] at h; exact SeqAt.EqAt.int_str i t y u _ _ _ _ h
    · rcases keyIs_shape hv with ⟨j, u, rfl, rfl⟩ | ⟨y, u, rfl, rfl⟩
      · rw [key_rl] at h; exact SeqAt.EqAt.str_int x t j u _ _ _ _ h
      · rw [key_rr] at h; exact wpAny_eqBool_str h
  «strs» := fun k x t v h => by
    rcases keyIs_shape h with ⟨i, u, rfl, e⟩ | ⟨y, u, rfl, e⟩
    · exact nomatch e
    · injection e with e1 _
      subst e1
      cases v <;> rfl
theorem mixKind_int (prog : Program) (w : World) (i : Int) (t : Tok) : (mixKind prog w).is (.inl i) (.int i t) = true := keyIs_int i t
theorem mixKind_str (prog : Program) (w : World) (x : Str) (t : Tok) : (mixKind prog w).is (.inr x) (.str x t) = true := keyIs_str x t
end L2
namespace L2
open PySem PySem.Spec PyProof.Rows
inductive V where
  | non | bl (b : Bool) | int (i : Int) | str (x : Str) | byt (b : Array UInt8) | flt (b : UInt64) | ref (a : Addr) | ty (n : String)
  deriving DecidableEq
def RelV : V → Value → Prop
  | .non, u => u = Value.none
  | .bl b, u => u = Value.bool b
  | .int i, u => ∃ t, u = Value.int i t
  | .str x, u => ∃ t, u = Value.str x t
  | .byt b, u => ∃ t, u = Value.bytes b t
  | .flt b, u => ∃ t, u = Value.float b t
  | .ref a, u => u = Value.ref a
  | .ty n, u => u = Value.type n
abbrev Vals : List V → List Value → Prop := Paired RelV
theorem Vals.length {xs : List V} {us : List Value} (r : Vals xs us) : xs.length = us.length := Paired.length r
theorem Vals.get : ∀ {xs : List V} {us : List Value} {i : Nat} {x : V}, Vals xs us → xs[i]? = some x → ∃ u, us[i]? = some u ∧ RelV x u
  | _, _, _, _, .nil, e => by simp at e
  | _, _, 0, _, .cons r _, e => by simp at e; subst e; exact ⟨_, rfl, r⟩
  | _, _, i + 1, x, .cons _ t, e => by
    obtain ⟨u, h1, h2⟩ := Vals.get (i := i) (x := x) t (by simpa using e)
    exact ⟨u, by simpa using h1, h2⟩
theorem Vals.set {x : V} {u : Value} (r : RelV x u) : ∀ {xs : List V} {us : List Value} (i : Nat), Vals xs us → Vals (xs.set i x) (us.set i u)
  | _, _, _, .nil => .nil
  | _, _, 0, .cons _ t => .cons r t
  | _, _, i + 1, .cons q t => .cons q (Vals.set r i t)
theorem Vals.append : ∀ {xs ys : List V} {us ws : List Value}, Vals xs us → Vals ys ws → Vals (xs ++ ys) (us ++ ws)
  | _, _, _, _, .nil, s => s
  | _, _, _, _, .cons r t, s => .cons r (Vals.append t s)
theorem Vals.take : ∀ {xs : List V} {us : List Value} (n : Nat), Vals xs us → Vals (xs.take n) (us.take n)
  | _, _, 0, _ => .nil
  | _, _, _ + 1, .nil => .nil
  | _, _, n + 1, .cons r t => .cons r (Vals.take n t)
theorem Vals.drop : ∀ {xs : List V} {us : List Value} (n : Nat), Vals xs us → Vals (xs.drop n) (us.drop n)
  | _, _, 0, r => r
  | _, _, _ + 1, .nil => .nil
  | _, _, n + 1, .cons _ t => Vals.drop n t
theorem Vals.none_of : ∀ {xs : List V} {us : List Value} {i : Nat}, Vals xs us → xs[i]? = none → us[i]? = none := fun {xs us i} r e => by
  have h1 := r.length
  have h2 : xs.length ≤ i := List.getElem?_eq_none_iff.mp e
  exact List.getElem?_eq_none_iff.mpr (by omega)
def RelO : Option V → Option Value → Prop
  | some v, some u => RelV v u
  | none, none => True
  | _, _ => False
def KV {κ : Type} : List (κ × V) → List (κ × Value) → Prop := Paired fun (p : κ × V) (q : κ × Value) => p.1 = q.1 ∧ RelV p.2 q.2
def kV : Key → V
  | .inl i => .int i
  | .inr x => .str x
inductive HO where
  | lst (xs : List V)
  | tup (xs : List V)
  | dK (kvs : List (Key × V)) | dT (kvs : List (List Key × V))
  | set (S : Int → Bool) (n : Nat)
  | ins (C dx : Addr) (fs : List (Str × V))
  | own (x : Addr)
  | xd (fs : List (Str × V))
  | met (f x : Addr)
  | rng (lo hi : Int)
  | frz (o : Obj) (u : HO)
  | tbl (ps : Array Value)
  | ext (φ : Heap → Prop)
abbrev Hp := Addr → Option HO
def upd (H : Hp) (a : Addr) (o : HO) : Hp := fun b => if b = a then some o else H b
theorem upd_same {H : Hp} {a : Addr} {o : HO} : upd H a o a = some o := by unfold upd; rw [if_pos rfl]
theorem upd_ne {H : Hp} {a b : Addr} {o : HO} (h : b ≠ a) : upd H a o b = H b := by unfold upd; rw [if_neg h]
theorem upd_upd {H : Hp} {a : Addr} {o u : HO} : upd (upd H a o) a u = upd H a u := by
  funext b; unfold upd; split <;> rfl
theorem ne_of {H : Hp} {a b : Addr} {o u : HO} (h : H a = some o) (h' : H b = some u) (d : o ≠ u) : a ≠ b := by
  intro e; subst e; rw [h] at h'; exact d (Option.some.inj h')
theorem ne_of_none {H : Hp} {a b : Addr} {o : HO} (h : H a = some o) (h' : H b = none) : a ≠ b := by
  intro e; subst e; rw [h] at h'; cases h'
section
variable (P : Program) (w : World)
def ObjOk (H : Hp) (h : Heap) (a : Addr) : HO → Prop
  | .lst xs => xs.length ≤ sizeLine ∧ ∃ (its : List Value) (n : Nat), Vals xs its ∧ h.get? a = some { cls := .type "list", data := .seq its.toArray n }
  | .tup xs => xs.length ≤ sizeLine ∧ ∃ its : List Value, Vals xs its ∧ IsTup h a its.toArray
  | .dK kvs => kvs.length ≤ sizeLine ∧ (a == sysModules) = false ∧ ∃ vs, KV kvs vs ∧ h.DictOf (mixKind P w) a vs
  | .dT kvs => kvs.length ≤ sizeLine ∧ (a == sysModules) = false ∧ ∃ xs : List (List Key × Addr × Value),
      Paired (fun (p : List Key × V) (q : List Key × Addr × Value) => p.1 = q.1 ∧ H q.2.1 = some (.tup (p.1.map kV)) ∧ RelV p.2 q.2.2) kvs xs ∧
      ∃ o es ep, h.get? a = some o ∧ o.ExactDict ∧ o.data = .dict es ep ∧ es.toList = xs.map (entryOfKey (tupleKind (mixKind P w))) ∧ (xs.map (·.1)).Nodup
  | .set S n => h.SetOf (intKind P w) a S n
  | .ins C dx fs => H dx = some (.own a) ∧ fs.length ≤ 1000 ∧ dx ≠ a ∧ h.get? a = some (PySem.W.instObj C dx) ∧
      ∃ mA, h.Ns1 dx mA ∧ (∀ f, RelO (fs.lookup f) (mA f)) ∧ PySem.Within mA (fs.map (·.1))
  | .own _ => ∃ o, h.get? a = some o
  | .xd fs => ∃ mA, h.Ns1 a mA ∧ ∀ f, RelO (fs.lookup f) (mA f)
  | .rng lo hi => ∃ t u v, h.get? a = some { cls := .type "range", data := .fields #[.int lo t, .int hi u, .int 1 v] }
  | .frz o u => h.get? a = some o ∧ ObjOk H h a u
  | .tbl ps => h.get? a = some { cls := .none, data := .fields ps }
  | .met f x => h.get? a = some (PySem.W.methodObj (.ref f) (.ref x))
  | .ext φ => φ h ∧ (∃ o, h.get? a = some o) ∧ ∀ h1 h2 : Heap, φ h1 → (∀ o, h1.get? a = some o → h2.get? a = some o) → φ h2
def HOk (H : Hp) (h : Heap) : Prop := ∀ a o, H a = some o → ObjOk P w H h a o
end
section
variable {P : Program} {w : World} {H H' : Hp} {h h' : Heap} {a : Addr} {o : HO}
theorem ObjOk.lt (x : ObjOk P w H h a o) : a < h.objs.size := by
  cases o with
  | lst xs => obtain ⟨_, _, _, _, e⟩ := x; exact Heap.lt_size e
  | tup xs => obtain ⟨_, _, _, p⟩ := x; exact p.lt
  | dK kvs => obtain ⟨_, _, _, _, o, _, _, e, _⟩ := x; exact Heap.lt_size e
  | dT kvs => obtain ⟨_, _, _, _, o, _, _, e, _⟩ := x; exact Heap.lt_size e
  | set S n => obtain ⟨o, _, _, _, e, _⟩ := x; exact Heap.lt_size e
  | ins C dx fs => obtain ⟨_, _, _, e, _⟩ := x; exact Heap.lt_size e
  | own y => obtain ⟨_, e⟩ := x; exact Heap.lt_size e
  | xd fs => obtain ⟨_, ⟨_, _, _, e, _⟩, _⟩ := x; exact Heap.lt_size e
  | rng lo hi => obtain ⟨_, _, _, e⟩ := x; exact Heap.lt_size e
  | frz ob u => obtain ⟨e, _⟩ := x; exact Heap.lt_size e
  | tbl ps => exact Heap.lt_size (show h.get? a = some _ from x)
  | met f y => exact Heap.lt_size (show h.get? a = some _ from x)
  | ext φ => obtain ⟨_, ⟨_, e⟩, _⟩ := x; exact Heap.lt_size e
theorem Paired.mapP {α β : Type} {F G : α → β → Prop} : ∀ {l₁ : List α} {l₂ : List β}, Paired F l₁ l₂ → (∀ a b, F a b → G a b) → Paired G l₁ l₂
  | _, _, .nil, _ => .nil
  | _, _, .cons r t, f => .cons (f _ _ r) (Paired.mapP t f)
theorem ObjOk.stay (x : ObjOk P w H h a o) (k : ∀ b u, (b = a ∨ H b = some (.own a)) → h.get? b = some u → h'.get? b = some u)
    (ho : ∀ b, H b = some (.own a) → H' b = some (.own a)) (ht : ∀ b xs, H b = some (.tup xs) → H' b = some (.tup xs)) : ObjOk P w H' h' a o := by
  induction o with
  | lst xs => obtain ⟨z, its, n, r, e⟩ := x; exact ⟨z, its, n, r, k _ _ (.inl rfl) e⟩
  | tup xs => obtain ⟨z, its, r, ob, e, c⟩ := x; exact ⟨z, its, r, ob, k _ _ (.inl rfl) e, c⟩
  | dK kvs => obtain ⟨z, y, vs, r, ob, es, ep, e, c⟩ := x; exact ⟨z, y, vs, r, ob, es, ep, k _ _ (.inl rfl) e, c⟩
  | dT kvs =>
    obtain ⟨z, y, xs, r, ob, es, ep, e, c⟩ := x
    exact ⟨z, y, xs, Paired.mapP r fun p q z => ⟨z.1, ht _ _ z.2.1, z.2.2⟩, ob, es, ep, k _ _ (.inl rfl) e, c⟩
  | set S n => obtain ⟨ob, es, ep, t, e, c⟩ := x; exact ⟨ob, es, ep, t, k _ _ (.inl rfl) e, c⟩
  | ins C dx fs =>
    obtain ⟨d, z, ne, e, mA, ⟨od, es, ep, e2, c⟩, r⟩ := x
    exact ⟨ho _ d, z, ne, k _ _ (.inl rfl) e, mA, ⟨od, es, ep, k _ _ (.inr d) e2, c⟩, r⟩
  | own y => obtain ⟨ob, e⟩ := x; exact ⟨ob, k _ _ (.inl rfl) e⟩
  | xd fs => obtain ⟨mA, ⟨od, es, ep, e, c⟩, r⟩ := x; exact ⟨mA, ⟨od, es, ep, k _ _ (.inl rfl) e, c⟩, r⟩
  | rng lo hi => obtain ⟨t, u, v, e⟩ := x; exact ⟨t, u, v, k _ _ (.inl rfl) e⟩
  | frz ob u ih => obtain ⟨e, q⟩ := x; exact ⟨k _ _ (.inl rfl) e, ih q⟩
  | tbl ps =>
    have e : h.get? a = some { cls := .none, data := .fields ps } := x
    show h'.get? a = some { cls := .none, data := .fields ps }
    exact k a _ (.inl rfl) e
  | met f y =>
    have e : h.get? a = some (PySem.W.methodObj (.ref f) (.ref y)) := x
    show h'.get? a = some (PySem.W.methodObj (.ref f) (.ref y))
    exact k a _ (.inl rfl) e
  | ext φ => obtain ⟨p, ⟨o, e⟩, st⟩ := x; exact ⟨st _ _ p fun o q => k _ _ (.inl rfl) q, ⟨o, k _ _ (.inl rfl) e⟩, st⟩
theorem HOk.lt (x : HOk P w H h) (e : H a = some o) : a < h.objs.size := (x a o e).lt
theorem HOk.fresh (x : HOk P w H h) (e : h.objs.size ≤ a) : H a = none := by
  cases q : H a with
  | none => rfl
  | some u => exact absurd (Nat.lt_of_lt_of_le (x.lt q) e) (Nat.lt_irrefl _)
theorem HOk.kept (x : HOk P w H h) (k : ∀ b u, h.get? b = some u → h'.get? b = some u) : HOk P w H h' := fun a o e =>
  (x a o e).stay (fun b u _ q => k b u q) (fun _ q => q) fun _ _ q => q
theorem HOk.laid (x : HOk P w H h) (k : ∀ b u, h.get? b = some u → h'.get? b = some u) (hp : h.objs.size ≤ a) (new : ObjOk P w (upd H a o) h' a o) : HOk P w (upd H a o) h' := fun b u e => by
  have hn := x.fresh hp
  by_cases hb : b = a
  · subst hb; rw [upd_same] at e; cases e; exact new
  · rw [upd_ne hb] at e
    exact (x b u e).stay (fun c v _ q => k c v q) (fun c q => by rw [upd_ne (ne_of_none q hn)]; exact q) fun c xs q => by rw [upd_ne (ne_of_none q hn)]; exact q
end
def Rd (H : Hp) (a : Addr) (u : HO) : Prop := H a = some u ∨ ∃ o, H a = some (.frz o u)
theorem Rd.of {H : Hp} {a : Addr} {u : HO} (h : H a = some u) : Rd H a u := .inl h
theorem Rd.ok {P : Program} {w : World} {H : Hp} {h : Heap} {a : Addr} {u : HO} (r : Rd H a u) (x : HOk P w H h) : ObjOk P w H h a u := by
  rcases r with r | ⟨o, r⟩
  · exact x a u r
  · obtain ⟨_, q⟩ := x a _ r
    exact q
def Mut : Option HO → Prop
  | some (.lst _) => True
  | some (.dK _) => True
  | some (.dT _) => True
  | some (.set _ _) => True
  | some (.ins _ _ _) => True
  | some (.ext _) => True
  | _ => False
section
variable {P : Program} {w : World} {H : Hp} {h h' : Heap} {x e : Addr} {o' : HO}
theorem HOk.write (ok : HOk P w H h) (mu : Mut (H x)) (he : e = x ∨ H e = some (.own x)) (k : ∀ b u, b ≠ e → h.get? b = some u → h'.get? b = some u) (heo : ∃ u, h'.get? e = some u)
    (new : ObjOk P w (upd H x o') h' x o') : HOk P w (upd H x o') h' := fun b u q => by
  have nown : ∀ c y, H c = some (.own y) → c ≠ x := fun c y r z => by subst z; rw [r] at mu; exact mu
  have ntup : ∀ c xs, H c = some (.tup xs) → c ≠ x := fun c xs r z => by subst z; rw [r] at mu; exact mu
  by_cases hb : b = x
  · subst hb; rw [upd_same] at q; cases q; exact new
  · rw [upd_ne hb] at q
    by_cases hbe : b = e
    · have q' : H b = some (.own x) := by
        rcases he with z | z
        · exact absurd (hbe.trans z) hb
        · rw [hbe]; exact z
      rw [q] at q'; cases q'
      obtain ⟨v, hv⟩ := heo
      exact ⟨v, by rw [hbe]; exact hv⟩
    · refine (ok b u q).stay (fun c v hc r => k c v ?_ r) (fun c r => by rw [upd_ne (nown c b r)]; exact r) fun c xs r => by rw [upd_ne (ntup c xs r)]; exact r
      rcases hc with rfl | hc
      · exact hbe
      · rintro rfl
        rcases he with z | z
        · exact nown c b hc z
        · rw [hc] at z; cases z; exact hb rfl
end
structure Un (fs ex : List Addr) (H H' : Hp) (h h' : Heap) : Prop where
  keep : ∀ b o, h.get? b = some o → H b = none → b ∉ fs → b ∉ ex → h'.get? b = some o
  slot : ∀ b o, h.get? b = some o → H b = none → b ∈ fs → b ∉ ex → ∃ sl, h'.get? b = some { o with slots := sl }
  free : ∀ b o, h.get? b = some o → H b = none → b ∉ ex → H' b = none
  there : ∀ b o, h.get? b = some o → b ∉ ex → ∃ o', h'.get? b = some o'
  tups : ∀ b xs, H b = some (.tup xs) → H' b = some (.tup xs)
  frzs : ∀ b o u, H b = some (.frz o u) → H' b = some (.frz o u)
  tbls : ∀ b ps, H b = some (.tbl ps) → ∃ more, H' b = some (.tbl (ps ++ more))
section
variable {fs fs' ex ex' : List Addr} {H H1 H2 : Hp} {h h1 h2 h' : Heap} {a x e : Addr} {o : HO}
theorem Un.any (u : Un fs ex H H1 h h1) {b : Addr} {ob : Obj} (q : h.get? b = some ob) (n : H b = none) (hx : b ∉ ex) : ∃ sl, h1.get? b = some { ob with slots := sl } := by
  by_cases hb : b ∈ fs
  · exact u.slot b ob q n hb hx
  · exact ⟨ob.slots, u.keep b ob q n hb hx⟩
theorem Un.trans (a : Un fs ex H H1 h h1) (b : Un fs ex H1 H2 h1 h2) : Un fs ex H H2 h h2 where
  keep := fun c ob q n hc hx => b.keep c ob (a.keep c ob q n hc hx) (a.free c ob q n hx) hc hx
  slot := fun c ob q n hc hx => by
    obtain ⟨sl, e1⟩ := a.slot c ob q n hc hx
    obtain ⟨sl', e2⟩ := b.slot c _ e1 (a.free c ob q n hx) hc hx
    exact ⟨sl', e2⟩
  free := fun c ob q n hx => by
    obtain ⟨o', e1⟩ := a.there c ob q hx
    exact b.free c o' e1 (a.free c ob q n hx) hx
  there := fun c ob q hx => by
    obtain ⟨o', e1⟩ := a.there c ob q hx
    exact b.there c o' e1 hx
  tups := fun c xs q => b.tups c xs (a.tups c xs q)
  frzs := fun c ob xs q => b.frzs c ob xs (a.frzs c ob xs q)
  tbls := fun c ps q => by
    obtain ⟨m1, e1⟩ := a.tbls c ps q
    obtain ⟨m2, e2⟩ := b.tbls c _ e1
    exact ⟨m1 ++ m2, by rw [e2, Array.append_assoc]⟩
theorem Un.kept (k : ∀ b u, h.get? b = some u → h'.get? b = some u) : Un fs ex H H h h' :=
  ⟨fun b ob q _ _ _ => k b ob q, fun b ob q _ _ _ => ⟨ob.slots, k b ob q⟩, fun _ _ _ n _ => n, fun b ob q _ => ⟨ob, k b ob q⟩, fun _ _ q => q, fun _ _ _ q => q, fun _ ps q => ⟨#[], by rw [q]; simp⟩⟩
theorem Un.refl : Un fs ex H H h h := Un.kept fun _ _ q => q
theorem Un.laid (k : ∀ b u, h.get? b = some u → h'.get? b = some u) (hp : h.objs.size ≤ a) (hn : H a = none) : Un fs ex H (upd H a o) h h' where
  keep := fun b u q _ _ _ => k b u q
  slot := fun b u q _ _ _ => ⟨u.slots, k b u q⟩
  free := fun b u q n _ => by rw [upd_ne (Nat.ne_of_lt (Nat.lt_of_lt_of_le (Heap.lt_size q) hp))]; exact n
  there := fun b u q _ => ⟨u, k b u q⟩
  tups := fun b xs q => by rw [upd_ne (ne_of_none q hn)]; exact q
  frzs := fun b u xs q => by rw [upd_ne (ne_of_none q hn)]; exact q
  tbls := fun b ps q => ⟨#[], by rw [upd_ne (ne_of_none q hn), q]; simp⟩
theorem Un.write (mu : Mut (H x)) (he : e = x ∨ H e = some (.own x)) (k : ∀ b u, b ≠ e → h.get? b = some u → h'.get? b = some u) (heo : ∃ u, h'.get? e = some u) : Un fs ex H (upd H x o) h h' := by
  have hx : ∀ b, H b = none → b ≠ x := fun b n z => by subst z; rw [n] at mu; exact mu
  have hb : ∀ b, H b = none → b ≠ e := fun b n z => by
    subst z
    rcases he with r | r
    · exact hx b n r
    · rw [n] at r; cases r
  have hm : ∀ b u, H b = some u → ¬ Mut (some u) → b ≠ x := fun b u q nm z => by subst z; rw [q] at mu; exact nm mu
  refine ⟨fun b u q n _ _ => k b u (hb b n) q, fun b u q n _ _ => ⟨u.slots, k b u (hb b n) q⟩, fun b u q n _ => by rw [upd_ne (hx b n)]; exact n, fun b u q _ => ?_,
    fun b xs q => by rw [upd_ne (hm b _ q fun z => z)]; exact q, fun b u xs q => by rw [upd_ne (hm b _ q fun z => z)]; exact q, fun b ps q => ⟨#[], by rw [upd_ne (hm b _ q fun z => z), q]; simp⟩⟩
  by_cases hbe : b = e
  · subst hbe; exact heo
  · exact ⟨u, k b u hbe q⟩
theorem Un.mono (u : Un fs ex H H1 h h1) (hs : ∀ b ∈ fs, b ∈ fs') (hx : ∀ b ∈ ex, b ∈ ex') : Un fs' ex' H H1 h h1 :=
  ⟨fun b ob q n hb he => u.keep b ob q n (fun z => hb (hs b z)) fun z => he (hx b z), fun _ _ q n _ he => u.any q n fun z => he (hx _ z), fun b ob q n he => u.free b ob q n fun z => he (hx b z), fun b ob q he => u.there b ob q fun z => he (hx b z), u.tups, u.frzs, u.tbls⟩
end
def trk (h : Heap) (H : Hp) : List Addr := (List.range h.objs.size).filter fun a => (H a).isSome
def hidT (h : Heap) (H : Hp) : Heap := PySem.W.hideAll h (trk h H)
theorem hidT_size (h : Heap) (H : Hp) : (hidT h H).objs.size = h.objs.size := PySem.W.hideAll_size _ _
theorem hidT_get {h : Heap} {H : Hp} {b : Addr} {o : Obj} (e : h.get? b = some o) (n : H b = none) : (hidT h H).get? b = some o :=
  PySem.W.hideAll_get _ e fun hm => by
    have q : (H b).isSome = true := (List.mem_filter.mp hm).2
    rw [n] at q; simp at q
theorem of_hidT {h : Heap} {H : Hp} {b : Addr} {o : Obj} (e : (hidT h H).get? b = some o) : h.get? b = some o ∧ H b = none := by
  have e' : h.get? b = some o := PySem.W.of_hideAll (trk h H) e
  refine ⟨e', ?_⟩
  cases q : H b with
  | none => rfl
  | some x =>
    have hm : b ∈ trk h H := List.mem_filter.mpr ⟨List.mem_range.mpr (Heap.lt_size e'), by simp [q]⟩
    have z : (hidT h H).get? b = none := PySem.W.hideAll_none (trk h H) hm
    rw [z] at e; cases e
def allNews (g h : Heap) (L : Addr) : List (Addr × Obj) := (List.range h.objs.size).filterMap fun a => if a = L ∨ (g.get? a).isSome = true then none else (h.get? a).map fun o => (a, o)
def rest (g h : Heap) (L d : Addr) : List (Addr × Obj) := (allNews g h L).filter fun p => decide (p.1 ≠ d)
end L2
namespace L2
open PySem PySem.Spec PyProof.Rows
structure Mod (K : PySem.W.Frag) (mg : Str → Option Value) (base : Heap) : Prop where
  kin : K.In base
  glob : base.Ns mainGlobals mg
  blt : ∃ mb, base.Ns builtinsNs mb ∧ ∀ x : Str, x ≠ "__name__" → mb x = bootBuiltins x
  nolimit : base.NoLimit
structure Cx where
  prog : Program
  w : World
  K : PySem.W.Frag
  mg : Str → Option Value
  base : Heap
  A : Around
  N : List Str
  s₀ : Shared
  H₀ : Hp
  env : Env
  outer : List Env
  stack : List Env
  ex : List Addr
  fn : Str → Bool
  calm : Bool
  pn : List (Addr × Obj)
  xe : Value → Shared → Prop
def frs (l : List Env) : List Addr := l.filterMap (·.frame)
abbrev Cx.fs (X : Cx) : List Addr := frs X.outer
def Vis (sc : Scope) (x : Str) : Prop := sc.names.lookup x = some .local ∨ sc.names.lookup x = some .cell ∨ sc.names.lookup x = some .free
def Loc (sc : Scope) (x : Str) : Prop := sc.names.lookup x = some .local ∨ sc.names.lookup x = some .cell
def Look (env : Env) (h : Heap) (m : Str → Option Value) (x : Str) (u : Value) : Prop :=
  (env.kindOf x = some .local ∧ m x = some u) ∨ ((env.kindOf x = some .cell ∨ env.kindOf x = some .free) ∧ ∃ c, env.cells.lookup x = some c ∧ h.IsCell c (some u))
structure Cx.Ok (X : Cx) : Prop where
  mod : Mod X.K X.mg X.base
  kind : X.env.scope.kind = .function
  glob : X.env.globals = mainGlobals
  blt : X.env.builtins = builtinsNs
  above : X.s₀.heap.objs.size ≤ X.env.locals
  inj : ∀ x y c, X.env.cells.lookup x = some c → X.env.cells.lookup y = some c → x = y
  has : ∀ x, (X.env.kindOf x = some .cell ∨ X.env.kindOf x = some .free) → ∃ c, X.env.cells.lookup x = some c
  cab : ∀ x c, X.fn x = true → X.env.cells.lookup x = some c → X.s₀.heap.objs.size ≤ c
  hd : X.calm = true → X.A.handled = none
  frames : X.A.frames = some X.stack
  stk : X.stack = X.outer ∨ (X.stack = X.env :: X.outer ∧ X.env.frame = some X.env.locals)
  exf : ∀ b ∈ X.ex, b ≠ X.env.locals ∧ ∀ x c, X.env.cells.lookup x = some c → c ≠ b
  bs : ∀ b o, X.base.get? b = some o → X.s₀.heap.get? b = some o ∧ X.H₀ b = none
  bsz : X.base.objs.size ≤ X.s₀.heap.objs.size
  noex : ∀ b o, X.base.get? b = some o → b ∉ X.ex
  exfs : ∀ b ∈ X.ex, b ∉ X.fs
  funs : X.s₀.heap.FunFrames X.base X.outer
  frf : ∀ b ∈ X.fs, X.H₀ b = none
structure Inv (X : Cx) (pins : List (Addr × Obj)) (σ : List (Option V)) (H : Hp) (s : Shared) : Prop where
  ok : X.Ok
  os : s.os = X.s₀.os
  bare : AllBare s.gens
  base : Un X.fs X.ex X.H₀ H X.s₀.heap s.heap
  loc : ∃ m, s.heap.Ns X.env.locals m ∧ ∀ (i : Nat) (x : Str) (v : V), X.N[i]? = some x → σ[i]? = some (some v) → Vis X.env.scope x → ∃ u, RelV v u ∧ Look X.env s.heap m x u
  cell : ∀ x c, X.env.cells.lookup x = some c → ∃ v, s.heap.IsCell c v
  free : H X.env.locals = none
  freeC : ∀ x c, X.env.cells.lookup x = some c → H c = none
  pin : ∀ p ∈ X.pn ++ pins, s.heap.get? p.1 = some p.2 ∧ H p.1 = none ∧ p.1 ≠ X.env.locals ∧ p.1 ∉ X.fs ∧ ∀ v, p.2.data ≠ .cell v
  hok : HOk X.prog X.w H s.heap
  len : σ.length = X.N.length
section
variable {X : Cx} {pins : List (Addr × Obj)} {σ : List (Option V)} {H H' : Hp} {s : Shared} {h' : Heap}
theorem Cx.Ok.nofr (ok : X.Ok) {b : Addr} {o : Obj} (e : X.base.get? b = some o) : b ∉ X.fs := fun hb => by
  have := (ok.funs.mem hb).1
  rw [e] at this; cases this
theorem Inv.bs (I : Inv X pins σ H s) : ∀ b o, X.base.get? b = some o → s.heap.get? b = some o ∧ H b = none := fun b o e =>
  ⟨I.base.keep b o (I.ok.bs b o e).1 (I.ok.bs b o e).2 (I.ok.nofr e) (I.ok.noex b o e), I.base.free b o (I.ok.bs b o e).1 (I.ok.bs b o e).2 (I.ok.noex b o e)⟩
theorem Inv.bk (I : Inv X pins σ H s) : ∀ b o, X.base.get? b = some o → s.heap.get? b = some o := fun b o e => (I.bs b o e).1
theorem Inv.mod (I : Inv X pins σ H s) : Mod X.K X.mg X.base := I.ok.mod
theorem Inv.kIn (I : Inv X pins σ H s) : X.K.In s.heap := I.ok.mod.kin.keeps I.bk
theorem Inv.nolimit (I : Inv X pins σ H s) : s.heap.NoLimit := I.ok.mod.nolimit.keeps I.bk
theorem Inv.lt (I : Inv X pins σ H s) : X.env.locals < s.heap.objs.size := let ⟨_, hn, _⟩ := I.loc; hn.lt
theorem Inv.sz (I : Inv X pins σ H s) : X.s₀.heap.objs.size ≤ s.heap.objs.size := Nat.le_trans I.ok.above (Nat.le_of_lt I.lt)
theorem Inv.nofs (I : Inv X pins σ H s) {a : Addr} (h : s.heap.objs.size ≤ a) : a ∉ X.fs := fun hb => by
  obtain ⟨_, o, ho, _⟩ := I.ok.funs.mem hb
  exact absurd (Nat.lt_of_lt_of_le (Heap.lt_size ho) (Nat.le_trans I.sz h)) (Nat.lt_irrefl _)
theorem Inv.cne (I : Inv X pins σ H s) : ∀ x c, X.env.cells.lookup x = some c → c ≠ X.env.locals := fun x c e z => by
  obtain ⟨v, o, ho, hd⟩ := I.cell x c e
  obtain ⟨m, ⟨o', es, ep, ho', hd', _⟩, _⟩ := I.loc
  rw [z, ho'] at ho; cases ho; rw [hd'] at hd; cases hd
theorem Inv.funs (I : Inv X pins σ H s) : s.heap.FunFrames X.base X.outer := by
  have all : ∀ (l : List Env), (∀ b ∈ frs l, b ∈ X.fs) → X.s₀.heap.FunFrames X.base l → s.heap.FunFrames X.base l := by
    intro l
    induction l with
    | nil => intro _ _; trivial
    | cons env r ih =>
      intro hs hl
      obtain ⟨hk, ⟨L, o, hf, hn, ho, hd⟩, hr⟩ := hl
      have hL : L ∈ X.fs := hs L (by unfold frs; rw [List.filterMap_cons, hf]; exact List.mem_cons_self)
      obtain ⟨sl, e⟩ := I.base.slot L o ho (I.ok.frf L hL) hL fun z => I.ok.exfs L z hL
      exact ⟨hk, ⟨L, _, hf, hn, e, hd⟩, ih (fun b hb => hs b (by unfold frs; rw [List.filterMap_cons, hf]; exact List.mem_cons_of_mem _ hb)) hr⟩
  exact all X.outer (fun _ hb => hb) I.ok.funs
theorem Inv.stack (I : Inv X pins σ H s) : s.heap.FunFrames X.base X.stack := by
  rcases I.ok.stk with e | ⟨e, hf⟩
  · rw [e]; exact I.funs
  · rw [e]
    obtain ⟨m, hn, _⟩ := I.loc
    refine .cons (by rw [I.ok.kind]; decide) hf hn ?_ I.funs
    exact Heap.get?_none_of_le (Nat.le_trans I.ok.bsz I.ok.above)
theorem Inv.stkSub (I : Inv X pins σ H s) : ∀ b ∈ frs X.stack, b ∈ X.env.locals :: X.fs := fun b hb => by
  rcases I.ok.stk with e | ⟨e, hf⟩
  · rw [e] at hb; exact List.mem_cons_of_mem _ hb
  · rw [e] at hb
    unfold frs at hb
    rw [List.filterMap_cons, hf] at hb
    exact hb
theorem Inv.stkFree (I : Inv X pins σ H s) : ∀ b ∈ frs X.stack, H b = none := fun b hb => by
  rcases List.mem_cons.mp (I.stkSub b hb) with e | hb
  · rw [e]; exact I.free
  · obtain ⟨_, o, ho, _⟩ := I.ok.funs.mem hb
    exact I.base.free b o ho (I.ok.frf b hb) fun z => I.ok.exfs b z hb
theorem Inv.step {g' : Array GenState} {t' : Nat} {d' : Drawn} {ch : List Addr} (I : Inv X pins σ H s)
    (hch : ∀ b ∈ ch, (b ∈ X.ex ∨ X.s₀.heap.objs.size ≤ b) ∧ b ≠ X.env.locals ∧ (∀ x c, X.env.cells.lookup x = some c → c ≠ b) ∧ ∀ p ∈ X.pn ++ pins, p.1 ≠ b)
    (keep : ∀ b o, b ≠ X.env.locals → b ∉ X.fs → b ∉ ch → s.heap.get? b = some o → H b = none → h'.get? b = some o)
    (slot : ∀ b o, b ≠ X.env.locals → b ∈ X.fs → b ∉ ch → s.heap.get? b = some o → H b = none → ∃ sl, h'.get? b = some { o with slots := sl }) (free : ∀ b o, b ∉ ch → s.heap.get? b = some o → H b = none → H' b = none)
    (there : ∀ b o, b ∉ ch → s.heap.get? b = some o → ∃ o', h'.get? b = some o')
    (tups : ∀ b xs, H b = some (.tup xs) → H' b = some (.tup xs)) (frzs : ∀ b o u, H b = some (.frz o u) → H' b = some (.frz o u)) (tbls : ∀ b ps, H b = some (.tbl ps) → ∃ more, H' b = some (.tbl (ps ++ more)))
    (ns : ∀ m, s.heap.Ns X.env.locals m → h'.Ns X.env.locals m) (hok : HOk X.prog X.w H' h') (hg : AllBare g') :
    Inv X pins σ H' { s with heap := h', gens := g', drawn := d', toks := t' } := by
  have neL : ∀ b o, X.s₀.heap.get? b = some o → b ≠ X.env.locals := fun b o e => Nat.ne_of_lt (Nat.lt_of_lt_of_le (Heap.lt_size e) I.ok.above)
  have neC : ∀ b o, X.s₀.heap.get? b = some o → b ∉ X.ex → b ∉ ch := fun b o e hx hb => by
    rcases (hch b hb).1 with z | z
    · exact hx z
    · exact absurd (Nat.lt_of_lt_of_le (Heap.lt_size e) z) (Nat.lt_irrefl _)
  have cellK : ∀ x c, X.env.cells.lookup x = some c → ∀ v, s.heap.IsCell c v → h'.IsCell c v := fun x c e v ⟨o, ho, hd⟩ => by
    have nch : c ∉ ch := fun z => (hch c z).2.2.1 x c e rfl
    by_cases hc : c ∈ X.fs
    · obtain ⟨sl, q⟩ := slot c o (I.cne x c e) hc nch ho (I.freeC x c e)
      exact ⟨_, q, hd⟩
    · exact ⟨o, keep c o (I.cne x c e) hc nch ho (I.freeC x c e), hd⟩
  refine ⟨I.ok, I.os, hg, ⟨fun b o e n hb hx => ?_, fun b o e n hb hx => ?_, fun b o e n hx => ?_, fun b o e hx => ?_, fun b xs e => tups b xs (I.base.tups b xs e), fun b o xs e => frzs b o xs (I.base.frzs b o xs e), fun b ps e => ?_⟩, ?_, fun x c e => ?_, ?_, fun x c e => ?_, fun p hp => ?_, hok, I.len⟩
  · exact keep b o (neL b o e) hb (neC b o e hx) (I.base.keep b o e n hb hx) (I.base.free b o e n hx)
  · obtain ⟨sl, e1⟩ := I.base.slot b o e n hb hx
    obtain ⟨sl', e2⟩ := slot b _ (neL b o e) hb (neC b o e hx) e1 (I.base.free b o e n hx)
    exact ⟨sl', e2⟩
  · obtain ⟨o', e1⟩ := I.base.there b o e hx
    exact free b o' (neC b o e hx) e1 (I.base.free b o e n hx)
  · obtain ⟨o', e1⟩ := I.base.there b o e hx
    exact there b o' (neC b o e hx) e1
  · obtain ⟨m1, e1⟩ := I.base.tbls b ps e
    obtain ⟨m2, e2⟩ := tbls b _ e1
    exact ⟨m1 ++ m2, by rw [e2, Array.append_assoc]⟩
  · obtain ⟨m, hn, hl⟩ := I.loc
    refine ⟨m, ns m hn, fun i x v e1 e2 e3 => ?_⟩
    obtain ⟨u, r, l⟩ := hl i x v e1 e2 e3
    refine ⟨u, r, ?_⟩
    rcases l with l | ⟨k, c, e, z⟩
    · exact .inl l
    · exact .inr ⟨k, c, e, cellK x c e _ z⟩
  · obtain ⟨v, z⟩ := I.cell x c e
    exact ⟨v, cellK x c e v z⟩
  · obtain ⟨m, ⟨o, _, _, ho, _⟩, _⟩ := I.loc
    exact free _ o (fun z => (hch _ z).2.1 rfl) ho I.free
  · obtain ⟨v, o, ho, hd⟩ := I.cell x c e
    exact free c o (fun z => (hch c z).2.2.1 x c e rfl) ho (I.freeC x c e)
  · obtain ⟨e, n, ne, nf, d⟩ := I.pin p hp
    have nch : p.1 ∉ ch := fun z => (hch p.1 z).2.2.2 p hp rfl
    exact ⟨keep p.1 p.2 ne nf nch e n, free p.1 p.2 nch e n, ne, nf, d⟩
theorem Inv.un {t' : Nat} (I : Inv X pins σ H s) (u : Un X.fs [] H H' s.heap h') (hok : HOk X.prog X.w H' h') : Inv X pins σ H' { s with heap := h', toks := t' } := by
  obtain ⟨m, ⟨o, es, ep, ho, r⟩, _⟩ := id I.loc
  obtain ⟨sl, hL⟩ := u.any ho I.free (by simp)
  exact I.step (g' := s.gens) (d' := s.drawn) (ch := []) (fun _ z => nomatch z) (fun b o _ hb _ e n => u.keep b o e n hb (by simp)) (fun b o _ hb _ e n => u.slot b o e n hb (by simp)) (fun b o _ e n => u.free b o e n (by simp)) (fun b o _ e => u.there b o e (by simp)) u.tups u.frzs u.tbls (fun m' hm => by
    obtain ⟨o', es', ep', ho', r'⟩ := hm
    rw [ho] at ho'; cases ho'
    exact ⟨_, es', ep', hL, r'⟩) hok I.bare
theorem Inv.call {g' : Array GenState} {t' : Nat} {d' : Drawn} {ch : List Addr} (I : Inv X pins σ H s) (u : Un (frs X.stack) ch H H' s.heap h') (hok : HOk X.prog X.w H' h') (hg : AllBare g')
    (hch : ∀ b ∈ ch, (b ∈ X.ex ∨ X.s₀.heap.objs.size ≤ b) ∧ b ≠ X.env.locals ∧ (∀ x c, X.env.cells.lookup x = some c → c ≠ b) ∧ ∀ p ∈ X.pn ++ pins, p.1 ≠ b) :
    Inv X pins σ H' { s with heap := h', gens := g', drawn := d', toks := t' } := by
  obtain ⟨m, ⟨o, es, ep, ho, r⟩, _⟩ := id I.loc
  obtain ⟨sl, hL⟩ := u.any ho I.free fun z => (hch _ z).2.1 rfl
  exact I.step (ch := ch) hch (fun b o hL hb hc e n => u.keep b o e n (fun z => (List.mem_cons.mp (I.stkSub b z)).elim hL hb) hc) (fun b o _ _ hc e n => u.any e n hc) (fun b o hc e n => u.free b o e n hc) (fun b o hc e => u.there b o e hc) u.tups u.frzs u.tbls (fun m' hm => by
    obtain ⟨o', es', ep', ho', r'⟩ := hm
    rw [ho] at ho'; cases ho'
    exact ⟨_, es', ep', hL, r'⟩) hok hg
theorem Inv.turned {t' : Nat} {it : Addr} (I : Inv X pins σ H s) (k : ∀ b o, b ≠ it → s.heap.get? b = some o → h'.get? b = some o) (hn : H it = none) (hL : it ≠ X.env.locals)
    (h1 : it ∈ X.ex ∨ X.s₀.heap.objs.size ≤ it) (h2 : ∀ x c, X.env.cells.lookup x = some c → c ≠ it) (h3 : ∀ p ∈ X.pn ++ pins, p.1 ≠ it) : Inv X pins σ H { s with heap := h', toks := t' } := by
  have nit : ∀ b u, H b = some u → b ≠ it := fun b u e z => by rw [z, hn] at e; cases e
  refine I.step (g' := s.gens) (d' := s.drawn) (ch := [it]) (fun b hb => ?_) (fun b o _ _ hc e _ => k b o (fun z => hc (by simp [z])) e) (fun b o _ _ hc e _ => ⟨o.slots, k b o (fun z => hc (by simp [z])) e⟩) (fun _ _ _ _ n => n)
    (fun b o hc e => ⟨o, k b o (fun z => hc (by simp [z])) e⟩) (fun _ _ e => e) (fun _ _ _ e => e) (fun b ps e => ⟨#[], by rw [e]; simp⟩) (fun m hm => ?_) (fun b u e => ?_) I.bare
  · have e : b = it := by simpa using hb
    subst e
    exact ⟨h1, hL, h2, h3⟩
  · obtain ⟨o, es, ep, ho, r⟩ := hm
    exact ⟨o, es, ep, k _ o (Ne.symm hL) ho, r⟩
  · refine (I.hok b u e).stay (fun c v hc q => k c v ?_ q) (fun _ q => q) fun _ _ q => q
    rcases hc with z | z
    · rw [z]; exact nit b u e
    · exact nit c _ z
theorem Inv.tok (I : Inv X pins σ H s) (t : Nat) : Inv X pins σ H { s with toks := t } := I.un (h' := s.heap) (t' := t) Un.refl I.hok
theorem Inv.kept {t' : Nat} (I : Inv X pins σ H s) (k : ∀ b u, s.heap.get? b = some u → h'.get? b = some u) : Inv X pins σ H { s with heap := h', toks := t' } := I.un (Un.kept k) (I.hok.kept k)
theorem Inv.laid {a : Addr} {o : HO} {t' : Nat} (I : Inv X pins σ H s) (k : ∀ b u, s.heap.get? b = some u → h'.get? b = some u) (hp : s.heap.objs.size ≤ a) (new : ObjOk X.prog X.w (upd H a o) h' a o) :
    Inv X pins σ (upd H a o) { s with heap := h', toks := t' } := I.un (Un.laid k hp (I.hok.fresh hp)) (I.hok.laid k hp new)
theorem Inv.write {x e : Addr} {o : HO} {t' : Nat} (I : Inv X pins σ H s) (mu : Mut (H x)) (he : e = x ∨ H e = some (.own x)) (k : ∀ b u, b ≠ e → s.heap.get? b = some u → h'.get? b = some u) (heo : ∃ u, h'.get? e = some u)
    (new : ObjOk X.prog X.w (upd H x o) h' x o) : Inv X pins σ (upd H x o) { s with heap := h', toks := t' } := I.un (Un.write mu he k heo) (I.hok.write mu he k heo new)
theorem Inv.pins_of {pins' : List (Addr × Obj)} (I : Inv X pins σ H s) (h : ∀ p ∈ pins', s.heap.get? p.1 = some p.2 ∧ H p.1 = none ∧ p.1 ≠ X.env.locals ∧ p.1 ∉ X.fs ∧ ∀ v, p.2.data ≠ .cell v) : Inv X pins' σ H s :=
  ⟨I.ok, I.os, I.bare, I.base, I.loc, I.cell, I.free, I.freeC, fun p hp => (List.mem_append.mp hp).elim (fun z => I.pin p (List.mem_append_left _ z)) (h p), I.hok, I.len⟩
theorem nodup_ix {N : List Str} (hN : N.Nodup) {i j : Nat} {x : Str} (a : N[i]? = some x) (b : N[j]? = some x) : i = j := by
  obtain ⟨h1, e1⟩ := List.getElem?_eq_some_iff.mp a
  obtain ⟨h2, e2⟩ := List.getElem?_eq_some_iff.mp b
  exact (List.getElem_inj hN).mp (e1.trans e2.symm)
theorem store_ok2 {M : Model} {A : Around} {E : Value → Shared → Prop} {i : Nat} {x : Str} {v : V} {u : Value} {Q : Unit → Shared → Prop} (I : Inv X pins σ H s) (hN : X.N.Nodup) (hi : X.N[i]? = some x) (hx : Loc X.env.scope x) (r : RelV v u)
    (h : ∀ s', Inv X pins (σ.set i (some v)) H s' → (∃ a, Heap.SameBut a s.heap s'.heap ∧ (a = X.env.locals ∨ X.env.cells.lookup x = some a)) → Q () s') (hf : X.fn x = true ∨ X.env.scope.names.lookup x = some .local := by first | exact .inl rfl | exact .inr rfl | assumption) : wpAny M A (storeName X.env x u) Q E s := by
  obtain ⟨m, hn, hl⟩ := id I.loc
  have hcls : (X.env.scope.kind == .class || (X.env.scope.kind == .module && X.env.locals != X.env.globals)) = false := by rw [I.ok.kind]; rfl
  have hiσ : i < σ.length := by rw [I.len]; exact (List.getElem?_eq_some_iff.mp hi).1
  have cne := I.cne
  have tracked : ∀ {a : Addr} {h' : Heap}, (∃ o, s.heap.get? a = some o ∧ H a = none) → Heap.SameBut a s.heap h' → HOk X.prog X.w H h' := fun {a h'} ha hs b ob e => by
    obtain ⟨_, _, hfree⟩ := ha
    refine (I.hok b ob e).stay (fun c w' hc q => (hs.2 c ?_).trans q) (fun _ q => q) fun _ _ q => q
    rintro rfl
    rcases hc with rfl | hc
    · rw [hfree] at e; cases e
    · rw [hfree] at hc; cases hc
  rcases hx with hk | hk
  · refine wpAny_storeName_local hk hn (fun h' hn' hs => ?_) hcls
    obtain ⟨oL, _, _, hoL, _⟩ := id hn
    refine h _ ⟨I.ok, I.os, I.bare, ⟨fun b o e n hb hx => ?_, fun b o e n hb hx => ?_, I.base.free, fun b o e hx => ?_, I.base.tups, I.base.frzs, I.base.tbls⟩, ⟨_, hn', fun j y v' e1 e2 e3 => ?_⟩, fun y c e => ?_, I.free, I.freeC, fun p hp => ?_, tracked ⟨oL, hoL, I.free⟩ hs, by simpa using I.len⟩ ⟨_, hs, .inl rfl⟩
    · exact (hs.2 b (Nat.ne_of_lt (Nat.lt_of_lt_of_le (Heap.lt_size e) I.ok.above))).trans (I.base.keep b o e n hb hx)
    · obtain ⟨sl, e1⟩ := I.base.slot b o e n hb hx
      exact ⟨sl, (hs.2 b (Nat.ne_of_lt (Nat.lt_of_lt_of_le (Heap.lt_size e) I.ok.above))).trans e1⟩
    · obtain ⟨o', e1⟩ := I.base.there b o e hx
      exact ⟨o', (hs.2 b (Nat.ne_of_lt (Nat.lt_of_lt_of_le (Heap.lt_size e) I.ok.above))).trans e1⟩
    · by_cases hj : j = i
      · subst hj
        rw [hi] at e1; cases e1
        rw [List.getElem?_set_self hiσ] at e2
        cases e2
        exact ⟨u, r, .inl ⟨hk, by simp⟩⟩
      · rw [List.getElem?_set_ne (Ne.symm hj)] at e2
        obtain ⟨u', r', q⟩ := hl j y v' e1 e2 e3
        refine ⟨u', r', ?_⟩
        rcases q with ⟨k, e⟩ | ⟨k, c, e, z⟩
        · refine .inl ⟨k, ?_⟩
          have : y ≠ x := fun e => hj (nodup_ix hN e1 (e ▸ hi))
          simp [this, e]
        · exact .inr ⟨k, c, e, z.sameBut hs (cne y c e)⟩
    · obtain ⟨w', z⟩ := I.cell y c e
      exact ⟨w', z.sameBut hs (cne y c e)⟩
    · obtain ⟨e, n, ne, nf, d⟩ := I.pin p hp
      exact ⟨(hs.2 p.1 ne).trans e, n, ne, nf, d⟩
  · have hfn : X.fn x = true := by
      rcases hf with z | z
      · exact z
      · rw [z] at hk; cases hk
    obtain ⟨c, hc⟩ := I.ok.has x (.inl hk)
    obtain ⟨w', z⟩ := I.cell x c hc
    refine wpAny_storeName_cell I.ok.kind hk hc z (fun h' hc' hs => ?_)
    obtain ⟨oc, hoc, hocd⟩ := id z
    refine h { s with heap := h' } ⟨I.ok, I.os, I.bare, ⟨fun b o e n hb hx => ?_, fun b o e n hb hx => ?_, I.base.free, fun b o e hx => ?_, I.base.tups, I.base.frzs, I.base.tbls⟩, ⟨m, hn.sameBut hs (Ne.symm (cne x c hc)), fun j y v' e1 e2 e3 => ?_⟩, fun y c' e => ?_, I.free, I.freeC, fun p hp => ?_, tracked ⟨oc, hoc, I.freeC x c hc⟩ hs, by simpa using I.len⟩ ⟨c, hs, .inr hc⟩
    · exact (hs.2 b (Nat.ne_of_lt (Nat.lt_of_lt_of_le (Heap.lt_size e) (I.ok.cab x c hfn hc)))).trans (I.base.keep b o e n hb hx)
    · obtain ⟨sl, e1⟩ := I.base.slot b o e n hb hx
      exact ⟨sl, (hs.2 b (Nat.ne_of_lt (Nat.lt_of_lt_of_le (Heap.lt_size e) (I.ok.cab x c hfn hc)))).trans e1⟩
    · obtain ⟨o', e1⟩ := I.base.there b o e hx
      exact ⟨o', (hs.2 b (Nat.ne_of_lt (Nat.lt_of_lt_of_le (Heap.lt_size e) (I.ok.cab x c hfn hc)))).trans e1⟩
    · by_cases hj : j = i
      · subst hj
        rw [hi] at e1; cases e1
        rw [List.getElem?_set_self hiσ] at e2
        cases e2
        exact ⟨u, r, .inr ⟨.inl hk, c, hc, hc'⟩⟩
      · rw [List.getElem?_set_ne (Ne.symm hj)] at e2
        obtain ⟨u', r', q⟩ := hl j y v' e1 e2 e3
        refine ⟨u', r', ?_⟩
        rcases q with q | ⟨k, c', e, z'⟩
        · exact .inl q
        · refine .inr ⟨k, c', e, z'.sameBut hs ?_⟩
          rintro rfl
          exact hj (nodup_ix hN e1 (I.ok.inj _ _ _ e hc ▸ hi))
    · by_cases hcc : c' = c
      · subst hcc; exact ⟨_, hc'⟩
      · obtain ⟨w2, z2⟩ := I.cell y c' e
        exact ⟨w2, z2.sameBut hs hcc⟩
    · obtain ⟨e, n, ne, nf, d⟩ := I.pin p hp
      refine ⟨(hs.2 p.1 ?_).trans e, n, ne, nf, d⟩
      intro q
      rw [q, hoc] at e
      have q' : oc = p.2 := Option.some.inj e
      exact d w' (by rw [← q']; exact hocd)
theorem store_ok {M : Model} {A : Around} {E : Value → Shared → Prop} {i : Nat} {x : Str} {v : V} {u : Value} {Q : Unit → Shared → Prop} (I : Inv X pins σ H s) (hN : X.N.Nodup) (hi : X.N[i]? = some x) (hx : Loc X.env.scope x) (r : RelV v u)
    (h : ∀ s', Inv X pins (σ.set i (some v)) H s' → Q () s') (hf : X.fn x = true ∨ X.env.scope.names.lookup x = some .local := by first | exact .inl rfl | exact .inr rfl | assumption) : wpAny M A (storeName X.env x u) Q E s :=
  store_ok2 I hN hi hx r (fun s' I' _ => h s' I') hf
theorem Inv.call' {s' : Shared} {ch : List Addr} (I : Inv X pins σ H s) (ho : s'.os = s.os) (u : Un (frs X.stack) ch H H' s.heap s'.heap) (hok : HOk X.prog X.w H' s'.heap) (hg : AllBare s'.gens)
    (hch : ∀ b ∈ ch, (b ∈ X.ex ∨ X.s₀.heap.objs.size ≤ b) ∧ b ≠ X.env.locals ∧ (∀ x c, X.env.cells.lookup x = some c → c ≠ b) ∧ ∀ p ∈ X.pn ++ pins, p.1 ≠ b) : Inv X pins σ H' s' := by
  obtain ⟨h', g', d', t', o'⟩ := s'
  have e : o' = s.os := ho
  subst e
  exact I.call (g' := g') (t' := t') (d' := d') u hok hg hch
end
abbrev XK := Value → Option Addr → Hp → Prop
abbrev St := List (Option V)
abbrev VK := V → Hp → Prop
abbrev TE := St → Hp → VK → Prop
abbrev TT := St → Hp → (Bool → Hp → Prop) → Prop
abbrev TA := St → Hp → (List V → Hp → Prop) → Prop
structure Ends where
  nx : St → Hp → Prop
  rt : VK
  bk : St → Hp → Prop := fun _ _ => False
  ct : St → Hp → Prop := fun _ _ => False
abbrev TS := Ends → St → Hp → Prop
def EP (X : Cx) (pins : List (Addr × Obj)) (σ : St) (Q : VK) (u : Value) (s' : Shared) : Prop := ∃ v H', Inv X pins σ H' s' ∧ RelV v u ∧ Q v H'
def TP (X : Cx) (pins : List (Addr × Obj)) (σ : St) (Q : Bool → Hp → Prop) (b : Bool) (s' : Shared) : Prop := ∃ H', Inv X pins σ H' s' ∧ Q b H'
def AP (X : Cx) (pins : List (Addr × Obj)) (σ : St) (Q : List V → Hp → Prop) (us : List Value) (s' : Shared) : Prop := ∃ vs H', Inv X pins σ H' s' ∧ Vals vs us ∧ Q vs H'
def SP (X : Cx) (pins : List (Addr × Obj)) (D : Ends) (f : Flow) (s' : Shared) : Prop :=
  match f with
  | .next => ∃ σ' H', Inv X pins σ' H' s' ∧ D.nx σ' H'
  | .brk => ∃ σ' H', Inv X pins σ' H' s' ∧ D.bk σ' H'
  | .cont => ∃ σ' H', Inv X pins σ' H' s' ∧ D.ct σ' H'
  | .ret u => ∃ v σ' H', Inv X pins σ' H' s' ∧ RelV v u ∧ D.rt v H'
def PE (X : Cx) (e : Expr) (t : TE) : Prop :=
  ∀ (pins : List (Addr × Obj)) (s : Shared) (σ : St) (H : Hp) (Q : VK), Inv X pins σ H s → t σ H Q → wpAny (model X.prog X.w) X.A (eval e X.env) (EP X pins σ Q) X.xe s
def PT (X : Cx) (e : Expr) (t : TT) : Prop :=
  ∀ (pins : List (Addr × Obj)) (s : Shared) (σ : St) (H : Hp) (Q : Bool → Hp → Prop), Inv X pins σ H s → t σ H Q → wpAny (model X.prog X.w) X.A (isTrue e X.env (eval e X.env)) (TP X pins σ Q) X.xe s
def PW (X : Cx) (e : Expr) (t : TT) : Prop :=
  ∀ (whole : Sem Value) (pins : List (Addr × Obj)) (s : Shared) (σ : St) (H : Hp) (Q : Bool → Hp → Prop), Inv X pins σ H s → t σ H Q → wpAny (model X.prog X.w) X.A (isTrue e X.env whole) (TP X pins σ Q) X.xe s
theorem PW.pt {X : Cx} {e : Expr} {t : TT} (h : PW X e t) : PT X e t := h _
def PA (X : Cx) (es : List Expr) (t : TA) : Prop :=
  ∀ (pos : Pos) (pins : List (Addr × Obj)) (s : Shared) (σ : St) (H : Hp) (Q : List V → Hp → Prop), Inv X pins σ H s → t σ H Q → wpAny (model X.prog X.w) X.A (spliced (backTo pos (starEach es X.env))) (AP X pins σ Q) X.xe s
def PS (X : Cx) (st : Stmt) (t : TS) : Prop :=
  ∀ (pins : List (Addr × Obj)) (s : Shared) (σ : St) (H : Hp) (D : Ends), Inv X pins σ H s → t D σ H → wpAny (model X.prog X.w) X.A (exec st X.env) (SP X pins D) X.xe s
def PSs (X : Cx) (st : List Stmt) (t : TS) : Prop :=
  ∀ (pins : List (Addr × Obj)) (s : Shared) (σ : St) (H : Hp) (D : Ends), Inv X pins σ H s → t D σ H → wpAny (model X.prog X.w) X.A (execs st X.env) (SP X pins D) X.xe s
theorem thn {α : Type} {t : Sem α} {Q Q' : α → Shared → Prop} {M : Model} {A : Around} {E : Value → Shared → Prop} {s : Shared} (h : wpAny M A t Q E s) (hQ : ∀ a s, Q a s → Q' a s) : wpAny M A t Q' E s := wpAny_mono h hQ fun _ _ x => x
end L2
namespace L2
open PySem PySem.Spec PyProof.Rows
section
variable {X : Cx}
def tVar (i : Nat) : TE := fun σ H Q => ∃ v, σ[i]? = some (some v) ∧ Q v H
def tC (v : V) : TE := fun _ H Q => Q v H
theorem pe_var {i : Nat} {x : Str} {pos : Pos} (hN : X.N[i]? = some x) (hv : Vis X.env.scope x) (hd : (x == ("__debug__" : Str)) = false := by decide) (hcd : (x == ("__classdict__" : Str)) = false := by decide) : PE X (.Name x pos) (tVar i) := by
  intro pins s σ H Q I h
  obtain ⟨v, e, h⟩ := h
  obtain ⟨m, hn, hl⟩ := I.loc
  obtain ⟨u, r, l⟩ := hl i x v hN e hv
  have fin : EP X pins σ Q u s := ⟨v, H, I, r, h⟩
  rcases l with ⟨hk, hm⟩ | ⟨hk, c, hc, hcell⟩
  · exact wpAny_Name (wpAny_loadName_local I.ok.kind hk hn hm fin) hd
  · rcases hk with hk | hk
    · exact wpAny_Name (wpAny_loadName_cell I.ok.kind hk hc hcell fin) hd
    · exact wpAny_Name (wpAny_loadName_free I.ok.kind hk hc hcell fin hcd) hd
theorem pe_int {i j pos} : PE X (.Constant (.int i) j pos) (tC (.int i)) := fun _ _ _ H _ I h => wpAny_Constant_int ⟨.int i, H, I.tok _, ⟨_, rfl⟩, h⟩
theorem pe_bl {b j pos} : PE X (.Constant (.bool b) j pos) (tC (.bl b)) := fun _ _ _ H _ I h => Constant_bool ⟨.bl b, H, I, rfl, h⟩
theorem pe_non {j pos} : PE X (.Constant .none j pos) (tC .non) := fun _ _ _ H _ I h => Constant_none ⟨.non, H, I, rfl, h⟩
theorem pe_str {x j pos} : PE X (.Constant (.str x) j pos) (tC (.str x)) := fun _ _ _ H _ I h => Calls.Constant_str ⟨.str x, H, I.tok _, ⟨_, rfl⟩, h⟩
def Gl (X : Cx) (x : Str) : Prop := X.env.kindOf x = some .globalImplicit
theorem ld_glob {E : Value → Shared → Prop} {pins : List (Addr × Obj)} {s : Shared} {σ : St} {H : Hp} {x : Str} {u : Value} {pos : Pos} {Q : Value → Shared → Prop} (I : Inv X pins σ H s) (hg : Gl X x) (hm : X.mg x = some u) (h : Q u s)
    (hd : (x == ("__debug__" : Str)) = false := by decide) : wpAny (model X.prog X.w) X.A (eval (.Name x pos) X.env) Q E s :=
  Calls.Name_function_global I.ok.kind hg (Calls.loadGlobal_global (by rw [I.ok.glob]; exact I.mod.glob.keeps I.bk) hm h) hd
theorem ld_blt {E : Value → Shared → Prop} {pins : List (Addr × Obj)} {s : Shared} {σ : St} {H : Hp} {x : Str} {u : Value} {pos : Pos} {Q : Value → Shared → Prop} (I : Inv X pins σ H s) (hg : Gl X x) (hm : X.mg x = none) (hv : bootBuiltins x = some u) (h : Q u s)
    (hn : x ≠ "__name__" := by decide) (hd : (x == ("__debug__" : Str)) = false := by decide) : wpAny (model X.prog X.w) X.A (eval (.Name x pos) X.env) Q E s := by
  obtain ⟨mb, h1, h2⟩ := I.mod.blt
  exact Calls.Name_function_global I.ok.kind hg (Calls.loadGlobal_builtin (by rw [I.ok.glob]; exact I.mod.glob.keeps I.bk) hm (by rw [I.ok.blt]; exact h1.keeps I.bk) ((h2 x hn).trans hv) h) hd
theorem pe_glob {x : Str} {v : V} {u : Value} {pos : Pos} (hg : Gl X x) (hm : X.mg x = some u) (r : RelV v u) (hd : (x == ("__debug__" : Str)) = false := by decide) : PE X (.Name x pos) (tC v) :=
  fun _ _ _ H _ I h => ld_glob I hg hm ⟨v, H, I, r, h⟩ hd
theorem pe_bltn {x : Str} {v : V} {u : Value} {pos : Pos} (hg : Gl X x) (hm : X.mg x = none) (hv : bootBuiltins x = some u) (r : RelV v u) (hn : x ≠ "__name__" := by decide) (hd : (x == ("__debug__" : Str)) = false := by decide) : PE X (.Name x pos) (tC v) :=
  fun _ _ _ H _ I h => ld_blt I hg hm hv ⟨v, H, I, r, h⟩ hn hd
variable {a b : Expr} {ta tb : TE} {pos : Pos}
def PC (X : Cx) (op : CmpOp) (a b : Expr) (t : TE) : Prop :=
  ∀ (pins : List (Addr × Obj)) (s : Shared) (σ : St) (H : Hp) (Q : VK), Inv X pins σ H s → t σ H Q →
    wpAny (model X.prog X.w) X.A (eval a X.env) (fun v s₁ => wpAny (model X.prog X.w) X.A (eval b X.env) (fun u s₂ => wpAny (model X.prog X.w) X.A (compareOp op v u) (EP X pins σ Q) X.xe s₂) X.xe s₁) X.xe s
theorem nobehind (b : Expr) {op : CmpOp} (h : op ≠ .In) (h2 : op ≠ .NotIn) : behindInMarks op b = false := by
  have e1 : (op == CmpOp.In) = false := by cases op <;> first | rfl | exact absurd rfl h
  have e2 : (op == CmpOp.NotIn) = false := by cases op <;> first | rfl | exact absurd rfl h2
  cases b <;> simp [behindInMarks, e1, e2]
def tB (t : TE) : TT := fun σ H Q => t σ H fun x H1 => ∃ c, x = .bl c ∧ Q c H1
theorem pt_cmp {op : CmpOp} {t : TE} (h : PC X op a b t) (h1 : behindInMarks op b = false := by first | exact nobehind _ (by decide) (by decide) | rfl) : PT X (.Compare a [op] [b] pos) (tB t) := by
  intro pins s σ H Q I hw
  refine wpAny_isTrue_Compare1 (thn (h pins s σ H _ I hw) fun v s1 h1 => thn h1 fun u s2 h2 => thn h2 fun c s3 ⟨x, H1, I1, r1, q1⟩ => ?_) h1
  obtain ⟨d, rfl, q⟩ := q1
  cases r1
  exact wpAny_truthy_bool ⟨H1, I1, q⟩
theorem pt_val {e : Expr} {t : TE} (h : PE X e t) (he : ∀ whole, isTrue e X.env whole = (do let v ← whole; standAt e.pos; holding [v] (truthy v)) := by intro _; rfl) : PT X e (tB t) := by
  intro pins s σ H Q I hw
  refine isTrue_plain (thn (h pins s σ H _ I hw) fun v s1 ⟨x, H1, I1, r1, q1⟩ => ?_) (he _)
  obtain ⟨d, rfl, q⟩ := q1
  cases r1
  exact wpAny_truthy_bool ⟨H1, I1, q⟩
variable {tA tB' : TT} {rest : List Expr}
def tAnd (t u : TT) : TT := fun σ H Q => t σ H fun c H1 => if c = true then u σ H1 Q else Q false H1
def tOr (t u : TT) : TT := fun σ H Q => t σ H fun c H1 => if c = true then Q true H1 else u σ H1 Q
def tNot (t : TT) : TT := fun σ H Q => t σ H fun c H1 => Q (!c) H1
theorem pw_and1 (ha : PT X a tA) : PW X (.BoolOp .And [a] pos) tA := by
  intro wh pins s σ H Q I h
  refine isTrue_and (thn (ha pins s σ H Q I h) fun c s1 e => ?_)
  cases c with
  | true => exact isTrue_and_nil e
  | false => exact e
theorem pw_or1 (ha : PT X a tA) : PW X (.BoolOp .Or [a] pos) tA := by
  intro wh pins s σ H Q I h
  refine isTrue_or (thn (ha pins s σ H Q I h) fun c s1 e => ?_)
  cases c with
  | false => exact isTrue_or_nil e
  | true => exact e
theorem pw_and (ha : PT X a tA) (hb : PW X (.BoolOp .And (b :: rest) pos) tB') : PW X (.BoolOp .And (a :: b :: rest) pos) (tAnd tA tB') := by
  intro wh pins s σ H Q I h
  refine isTrue_and (thn (ha pins s σ H _ I h) fun c s1 ⟨H1, I1, q1⟩ => ?_)
  cases c with
  | true => exact hb wh pins s1 σ H1 Q I1 q1
  | false => exact ⟨H1, I1, q1⟩
theorem pw_or (ha : PT X a tA) (hb : PW X (.BoolOp .Or (b :: rest) pos) tB') : PW X (.BoolOp .Or (a :: b :: rest) pos) (tOr tA tB') := by
  intro wh pins s σ H Q I h
  refine isTrue_or (thn (ha pins s σ H _ I h) fun c s1 ⟨H1, I1, q1⟩ => ?_)
  cases c with
  | true => exact ⟨H1, I1, q1⟩
  | false => exact hb wh pins s1 σ H1 Q I1 q1
theorem pt_not (ha : PT X a tA) : PT X (.UnaryOp .Not a pos) (tNot tA) := by
  intro pins s σ H Q I h
  exact isTrue_not (ha pins s σ H (fun c H1 => Q (!c) H1) I h)
def tAndV (ta tb : TE) : TE := fun σ H Q => ta σ H fun x H1 => ∃ c, x = .bl c ∧ if c = true then tb σ H1 Q else Q (.bl false) H1
def tOrV (ta tb : TE) : TE := fun σ H Q => ta σ H fun x H1 => ∃ c, x = .bl c ∧ if c = true then Q (.bl true) H1 else tb σ H1 Q
def tNotV (ta : TE) : TE := fun σ H Q => ta σ H fun x H1 => ∃ c, x = .bl c ∧ Q (.bl (!c)) H1
theorem pe_one {op} {t : TE} (h : PE X a t) : PE X (.BoolOp op [a] pos) t := fun pins s σ H Q I hw => BoolOp_one (h pins s σ H Q I hw)
theorem pe_and (ha : PE X a ta) (hb : PE X (.BoolOp .And (b :: rest) pos) tb) : PE X (.BoolOp .And (a :: b :: rest) pos) (tAndV ta tb) := by
  intro pins s σ H Q I h
  refine BoolOp_and (thn (ha pins s σ H _ I h) fun v s1 ⟨x, H1, I1, r1, q1⟩ => ?_)
  obtain ⟨c, rfl, q1⟩ := q1
  cases r1
  refine wpAny_truthy_bool ?_
  cases c with
  | true => exact hb pins s1 σ H1 Q I1 q1
  | false => exact ⟨.bl false, H1, I1, rfl, q1⟩
theorem pe_or (ha : PE X a ta) (hb : PE X (.BoolOp .Or (b :: rest) pos) tb) : PE X (.BoolOp .Or (a :: b :: rest) pos) (tOrV ta tb) := by
  intro pins s σ H Q I h
  refine BoolOp_or (thn (ha pins s σ H _ I h) fun v s1 ⟨x, H1, I1, r1, q1⟩ => ?_)
  obtain ⟨c, rfl, q1⟩ := q1
  cases r1
  refine wpAny_truthy_bool ?_
  cases c with
  | false => exact hb pins s1 σ H1 Q I1 q1
  | true => exact ⟨.bl true, H1, I1, rfl, q1⟩
theorem pe_not (ha : PE X a ta) : PE X (.UnaryOp .Not a pos) (tNotV ta) := by
  intro pins s σ H Q I h
  refine UnaryOp_ (thn (ha pins s σ H _ I h) fun v s1 ⟨x, H1, I1, r1, q1⟩ => ?_)
  obtain ⟨c, rfl, q1⟩ := q1
  cases r1
  exact not_of (wpAny_truthy_bool ⟨.bl (!c), H1, I1, rfl, q1⟩)
end
end L2
namespace L2
open PySem PySem.Spec PyProof.Rows
def SqL (K : PySem.W.Frag) (H : Hp) (a : Addr) (xs : List V) : Prop :=
  Rd H a (.lst xs) ∨
    ∃ (o : Obj) (its : Array Value) (n : Nat), K.lookup a = some o ∧ o.cls = .type "list" ∧ o.dict = none ∧ o.data = .seq its n ∧ its.size ≤ sizeLine ∧ Vals xs its.toList
def SqT (K : PySem.W.Frag) (H : Hp) (a : Addr) (xs : List V) : Prop :=
  Rd H a (.tup xs) ∨
    ∃ (o : Obj) (its : Array Value) (n : Nat), K.lookup a = some o ∧ o.cls = .type "tuple" ∧ o.data = .seq its n ∧ its.size ≤ sizeLine ∧ Vals xs its.toList
def absV : Value → Option V
  | .none => some .non
  | .bool b => some (.bl b)
  | .int i _ => some (.int i)
  | .str x _ => some (.str x)
  | .bytes b _ => some (.byt b)
  | .float b _ => some (.flt b)
  | .ref a => some (.ref a)
  | .type n => some (.ty n)
  | _ => none
theorem RelV.abs {x : V} {u : Value} (r : RelV x u) : absV u = some x := by
  cases x with
  | non => cases r; rfl
  | bl _ => cases r; rfl
  | int _ => obtain ⟨t, rfl⟩ := r; rfl
  | str _ => obtain ⟨t, rfl⟩ := r; rfl
  | byt _ => obtain ⟨t, rfl⟩ := r; rfl
  | flt _ => obtain ⟨t, rfl⟩ := r; rfl
  | ref _ => cases r; rfl
  | ty _ => cases r; rfl
theorem RelV.inj {x y : V} {u : Value} (r : RelV x u) (q : RelV y u) : x = y := Option.some.inj (r.abs.symm.trans q.abs)
theorem Vals.inj : ∀ {xs ys : List V} {us : List Value}, Vals xs us → Vals ys us → xs = ys
  | _, _, _, .nil, .nil => rfl
  | _, _, _, .cons r t, .cons r' t' => by rw [r.inj r', Vals.inj t t']
section
variable {X : Cx} {pins : List (Addr × Obj)} {σ : St} {H : Hp} {s : Shared} {a : Addr} {xs ys : List V}
theorem SqL.of {K : PySem.W.Frag} (h : H a = some (.lst xs)) : SqL K H a xs := .inl (.inl h)
theorem SqT.of {K : PySem.W.Frag} (h : H a = some (.tup xs)) : SqT K H a xs := .inl (.inl h)
theorem Inv.list (I : Inv X pins σ H s) (h : SqL X.K H a xs) : ∃ its : List Value, Vals xs its ∧ PlainL s.heap a its.toArray ∧ xs.length ≤ sizeLine := by
  rcases h with h | ⟨o, its, n, hk, hc, hd, hs, hz, r⟩
  · obtain ⟨z, its, n, r, e⟩ := h.ok I.hok
    exact ⟨its, r, ⟨_, n, e, rfl, rfl, rfl⟩, z⟩
  · refine ⟨its.toList, r, ⟨o, n, I.kIn a o hk, hc, hd, by simpa using hs⟩, ?_⟩
    have e := r.length
    simp only [Array.length_toList] at e
    omega
theorem Inv.tuple (I : Inv X pins σ H s) (h : SqT X.K H a xs) : ∃ its : List Value, Vals xs its ∧ IsTup s.heap a its.toArray ∧ xs.length ≤ sizeLine := by
  rcases h with h | ⟨o, its, n, hk, hc, hs, hz, r⟩
  · obtain ⟨z, its, r, p⟩ := h.ok I.hok
    exact ⟨its, r, p, z⟩
  · refine ⟨its.toList, r, ⟨o, I.kIn a o hk, hc, n, by simpa using hs⟩, ?_⟩
    have e := r.length
    simp only [Array.length_toList] at e
    omega
theorem Inv.list_inj (I : Inv X pins σ H s) (h : SqL X.K H a xs) (h' : SqL X.K H a ys) : xs = ys := by
  obtain ⟨its, r, ⟨o, n, e, _, _, d⟩, _⟩ := I.list h
  obtain ⟨its', r', ⟨o', n', e', _, _, d'⟩, _⟩ := I.list h'
  rw [e] at e'; cases e'
  rw [d] at d'
  injection d' with d1 _
  have : its = its' := by simpa using congrArg Array.toList d1
  subst this
  exact r.inj r'
end
abbrev Cx.wish (X : Cx) (E : Value → Shared → Prop) : Cx := { X with xe := E }
abbrev Cx.nox (X : Cx) : Cx := X.wish fun _ _ => False
theorem Cx.Ok.wish {X : Cx} (ok : X.Ok) (E : Value → Shared → Prop) : (X.wish E).Ok :=
  ⟨ok.mod, ok.kind, ok.glob, ok.blt, ok.above, ok.inj, ok.has, ok.cab, ok.hd, ok.frames, ok.stk, ok.exf, ok.bs, ok.bsz, ok.noex, ok.exfs, ok.funs, ok.frf⟩
theorem Cx.Ok.unwish {X : Cx} {E : Value → Shared → Prop} (ok : (X.wish E).Ok) : X.Ok :=
  ⟨ok.mod, ok.kind, ok.glob, ok.blt, ok.above, ok.inj, ok.has, ok.cab, ok.hd, ok.frames, ok.stk, ok.exf, ok.bs, ok.bsz, ok.noex, ok.exfs, ok.funs, ok.frf⟩
section
variable {X : Cx} {pins : List (Addr × Obj)} {σ : St} {H : Hp} {s : Shared} {E : Value → Shared → Prop}
theorem Inv.wish (I : Inv X pins σ H s) (E : Value → Shared → Prop) : Inv (X.wish E) pins σ H s := ⟨I.ok.wish E, I.os, I.bare, I.base, I.loc, I.cell, I.free, I.freeC, I.pin, I.hok, I.len⟩
theorem Inv.unwish (I : Inv (X.wish E) pins σ H s) : Inv X pins σ H s := ⟨I.ok.unwish, I.os, I.bare, I.base, I.loc, I.cell, I.free, I.freeC, I.pin, I.hok, I.len⟩
theorem SP.unwish {D : Ends} {f : Flow} {s' : Shared} (h : SP (X.wish E) pins D f s') : SP X pins D f s' := by
  cases f with
  | next => obtain ⟨σ', H', I, q⟩ := h; exact ⟨σ', H', I.unwish, q⟩
  | brk => obtain ⟨σ', H', I, q⟩ := h; exact ⟨σ', H', I.unwish, q⟩
  | cont => obtain ⟨σ', H', I, q⟩ := h; exact ⟨σ', H', I.unwish, q⟩
  | ret u => obtain ⟨v, σ', H', I, r, q⟩ := h; exact ⟨v, σ', H', I.unwish, r, q⟩
theorem PE.nox {e : Expr} {t : TE} (h : PE X.nox e t) : PE X e t := fun pins s σ H Q I hw =>
  wpAny_mono (h pins s σ H Q (I.wish _) hw) (fun _ _ ⟨v, H', I', r, q⟩ => ⟨v, H', I'.unwish, r, q⟩) fun _ _ z => False.elim z
theorem PT.nox {e : Expr} {t : TT} (h : PT X.nox e t) : PT X e t := fun pins s σ H Q I hw =>
  wpAny_mono (h pins s σ H Q (I.wish _) hw) (fun _ _ ⟨H', I', q⟩ => ⟨H', I'.unwish, q⟩) fun _ _ z => False.elim z
theorem PSs.nox {st : List Stmt} {t : TS} (h : PSs X.nox st t) : PSs X st t := fun pins s σ H D I hw =>
  wpAny_mono (h pins s σ H D (I.wish _) hw) (fun _ _ q => q.unwish) fun _ _ z => False.elim z
end
section
variable {X : Cx} {st : Stmt} {rest : List Stmt} {t u : TS} {e : Expr} {te : TE} {pos : Pos}
def tNext : TS := fun D σ H => D.nx σ H
def tSeq (t u : TS) : TS := fun D σ H => t { D with nx := u D } σ H
theorem pss_nil : PSs X [] tNext := fun _ _ σ H _ I h => wpAny_execs_nil ⟨σ, H, I, h⟩
theorem pss_cons (h1 : PS X st t) (h2 : PSs X rest u) : PSs X (st :: rest) (tSeq t u) := by
  intro pins s σ H D I h
  refine wpAny_execs_cons (thn (h1 pins s σ H { D with nx := u D } I h) fun f s1 q => ?_)
  cases f with
  | next =>
    obtain ⟨σ', H', I', q⟩ := q
    exact h2 pins s1 σ' H' D I' q
  | ret v => exact q
  | brk => exact q
  | cont => exact q
theorem pss_one (h1 : PS X st t) : PSs X [st] t := by
  intro pins s σ H D I h
  refine wpAny_execs_cons (thn (h1 pins s σ H D I h) fun f s1 q => ?_)
  cases f with
  | next => exact wpAny_execs_nil q
  | ret v => exact q
  | brk => exact q
  | cont => exact q
theorem Inv.quiet {pins : List (Addr × Obj)} {σ : St} {H : Hp} {s : Shared} (I : Inv X pins σ H s) : interactive X.env = false := by simp [interactive, I.ok.kind]
def tDrop (te : TE) : TS := fun D σ H => te σ H fun _ H1 => D.nx σ H1
theorem ps_expr (he : PE X e te) (hs : swapsWith e none pos.line X.env = pure false := by rfl) : PS X (.Expr e pos) (tDrop te) := by
  intro pins s σ H D I h
  exact wpAny_Expr_any (thn (he pins s σ H _ I h) fun v s1 ⟨x, H1, I1, r1, q1⟩ => ⟨σ, H1, I1, q1⟩) I.quiet hs
def tRet (te : TE) : TS := fun D σ H => te σ H D.rt
theorem ps_ret (he : PE X e te) : PS X (.Return (some e) pos) (tRet te) := by
  intro pins s σ H D I h
  exact wpAny_Return_some (thn (he pins s σ H _ I h) fun v s1 ⟨x, H1, I1, r1, q1⟩ => ⟨x, σ, H1, I1, r1, q1⟩)
def tIfS (c : TT) (t u : TS) : TS := fun D σ H => c σ H fun b H1 => if b = true then t D σ H1 else u D σ H1
theorem ps_if {c : Expr} {a b : List Stmt} {tc : TT} (hc : PT X c tc) (ha : PSs X a t) (hb : PSs X b u) : PS X (.If c a b pos) (tIfS tc t u) := by
  intro pins s σ H D I h
  refine wpAny_If (thn (hc pins s σ H _ I h) fun d s1 ⟨H1, I1, q1⟩ => ?_)
  cases d with
  | true => exact ha pins s1 σ H1 D I1 q1
  | false => exact hb pins s1 σ H1 D I1 q1
end
abbrev TG := V → St → Hp → (St → Hp → Prop) → Prop
abbrev TGs := List V → St → Hp → (St → Hp → Prop) → Prop
def PG (X : Cx) (target : Expr) (t : TG) : Prop :=
  ∀ (pins : List (Addr × Obj)) (s : Shared) (σ : St) (H : Hp) (v : V) (u : Value) (Q : St → Hp → Prop), Inv X pins σ H s → RelV v u → t v σ H Q →
    wpAny (model X.prog X.w) X.A (assign target X.env u) (fun _ s' => ∃ σ' H', Inv X pins σ' H' s' ∧ Q σ' H') X.xe s
def PGs (X : Cx) (ts : List Expr) (t : TGs) : Prop :=
  ∀ (pins : List (Addr × Obj)) (s : Shared) (σ : St) (H : Hp) (vs : List V) (us : List Value) (Q : St → Hp → Prop), Inv X pins σ H s → Vals vs us → t vs σ H Q →
    wpAny (model X.prog X.w) X.A (assignInOrder ((assignEach ts X.env).map (·.2)) us) (fun _ s' => ∃ σ' H', Inv X pins σ' H' s' ∧ Q σ' H') X.xe s
section
variable {X : Cx} {pos : Pos}
def gName (i : Nat) : TG := fun v σ H Q => Q (σ.set i (some v)) H
theorem pg_name {i : Nat} {x : Str} (hN : X.N.Nodup) (hi : X.N[i]? = some x) (hx : Loc X.env.scope x) (hf : X.fn x = true ∨ X.env.scope.names.lookup x = some .local := by first | exact .inl rfl | exact .inr rfl | assumption) : PG X (.Name x pos) (gName i) := by
  intro pins s σ H v u Q I r h
  exact wpAny_assign_Name (store_ok I hN hi hx r (fun s' I' => ⟨_, H, I', h⟩) hf)
def gNil : TGs := fun vs σ H Q => vs = [] ∧ Q σ H
def gCons (t : TG) (u : TGs) : TGs := fun vs σ H Q => ∃ v r, vs = v :: r ∧ t v σ H fun σ' H' => u r σ' H' Q
theorem pgs_nil : PGs X [] gNil := by
  intro pins s σ H vs us Q I r h
  obtain ⟨e, h⟩ := h
  subst e
  cases r
  exact assignInOrder_nil ⟨σ, H, I, h⟩
theorem pgs_cons {e : Expr} {es : List Expr} {t : TG} {u : TGs} (h1 : PG X e t) (h2 : PGs X es u)
    (hs : (assignEach (e :: es) X.env).map (·.2) = assign e X.env :: (assignEach es X.env).map (·.2) := by rfl) : PGs X (e :: es) (gCons t u) := by
  intro pins s σ H vs us Q I r h
  obtain ⟨v, vr, e1, h⟩ := h
  subst e1
  cases r with
  | cons r rr =>
    rw [hs]
    refine assignInOrder_cons (thn (h1 pins s σ H _ _ _ I r h) fun _ s1 ⟨σ1, H1, I1, q1⟩ => ?_)
    exact h2 pins s1 σ1 H1 _ _ Q I1 rr q1
def gTup (K : PySem.W.Frag) (n : Nat) (t : TGs) : TG := fun v σ H Q => ∃ a xs, v = .ref a ∧ SqT K H a xs ∧ xs.length = n ∧ t xs σ H Q
theorem pg_tup {es : List Expr} {k : Nat} {t : TGs} {n : Nat} (hc : X.calm = true) (h : PGs X es t)
    (hn : (assignEach es X.env).length = n := by rfl) (hst : (assignEach es X.env).findIdx? (·.1) = none := by rfl) : PG X (.Tuple es k pos) (gTup X.K n t) := by
  intro pins s σ H v u Q I r hw
  obtain ⟨a, xs, e1, hq, hl, hw⟩ := hw
  subst e1
  cases r
  obtain ⟨its, rv, ht, hz⟩ := I.tuple hq
  refine assign_Tuple_tuple (I.ok.hd hc) ht (by simp [hn, ← hl, rv.length]) hst fun h' hx => ?_
  have I1 : Inv X pins σ H { s with heap := h' } := I.kept (t' := s.toks) fun b o e => hx b o (Nat.ne_of_lt (Heap.lt_size e)) e
  exact h pins _ σ H xs _ Q I1 (by simpa using rv) hw
def tAsg (te : TE) (g : TG) : TS := fun D σ H => te σ H fun x H1 => g x σ H1 D.nx
theorem ps_set {i : Nat} {x : Str} {e : Expr} {te : TE} {pos' : Pos} (hN : X.N.Nodup) (hi : X.N[i]? = some x) (hx : Loc X.env.scope x) (he : PE X e te) (hs : swapsWith e (some (.Name x pos')) pos.line X.env = pure false := by rfl) (hf : X.fn x = true ∨ X.env.scope.names.lookup x = some .local := by first | exact .inl rfl | exact .inr rfl | assumption) :
    PS X (.Assign [.Name x pos'] e pos) (tAsg te (gName i)) := by
  intro pins s σ H D I h
  refine wpAny_Assign_Name (thn (he pins s σ H _ I h) fun v s1 ⟨y, H1, I1, r1, q1⟩ => ?_) hs
  exact store_ok I1 hN hi hx r1 (fun s2 I2 => ⟨_, H1, I2, q1⟩) hf
end
section
variable {X : Cx} {pos : Pos}
def tWhile (c : TT) (tb : TS) : TS := fun D σ H => ∃ W : Nat → St → Hp → Prop, (∃ m, W m σ H) ∧ ∀ m σ H, W m σ H →
  c σ H fun b H1 => if b = true then ∃ N : St → Hp → Prop, (∀ σ' H', N σ' H' → ∃ m', m' < m ∧ W m' σ' H') ∧ tb { D with nx := N, ct := N, bk := D.nx } σ H1 else D.nx σ H1
theorem ps_while {c : Expr} {body : List Stmt} {tc : TT} {tb : TS} (hp : PassesOwn (model X.prog X.w) X.A X.env X.xe) (hc : PT X c tc) (hb : PSs X body tb) : PS X (.While c body [] pos) (tWhile tc tb) := by
  intro pins s σ H D I h
  obtain ⟨W, ⟨m0, w0⟩, turn⟩ := h
  refine wpAny_While (codeAny_whileLoop (fun n s' => ∃ σ' H', Inv X pins σ' H' s' ∧ W n σ' H') ?_ m0 ⟨σ, H, I, w0⟩)
  rintro n s1 ⟨σ1, H1, I1, w1⟩
  refine wpAny_passesOwn hp (thn (hc pins s1 σ1 H1 _ I1 (turn n σ1 H1 w1)) fun b s2 ⟨H2, I2, q2⟩ => ?_)
  cases b with
  | true =>
    obtain ⟨N, hN, q2⟩ := q2
    rw [if_pos rfl]
    refine wpAny_passesOwn hp (thn (hb pins s2 σ1 H2 _ I2 q2) fun f s3 q3 => ?_)
    cases f with
    | next =>
      obtain ⟨σ3, H3, I3, n3⟩ := q3
      obtain ⟨m', hm, w3⟩ := hN σ3 H3 n3
      exact ⟨m', hm, σ3, H3, I3, w3⟩
    | cont =>
      obtain ⟨σ3, H3, I3, n3⟩ := q3
      obtain ⟨m', hm, w3⟩ := hN σ3 H3 n3
      exact ⟨m', hm, σ3, H3, I3, w3⟩
    | brk => exact q3
    | ret v => exact q3
  | false =>
    rw [if_neg Bool.false_ne_true]
    exact wpAny_execs_nil ⟨σ1, H2, I2, q2⟩
end
structure It where
  go : Nat → Hp → Prop
  yld : Nat → Hp → V → Hp → Prop
  stop : Nat → Hp → Prop
def FpOk (X : Cx) (pins : List (Addr × Obj)) (H : Hp) (b : Addr) : Prop :=
  H b = none ∧ b ≠ X.env.locals ∧ b ∉ X.fs ∧ (b ∈ X.ex ∨ X.s₀.heap.objs.size ≤ b) ∧ (∀ x c, X.env.cells.lookup x = some c → c ≠ b) ∧ ∀ p ∈ X.pn ++ pins, p.1 ≠ b
theorem Inv.fpOk {X : Cx} {pins : List (Addr × Obj)} {σ : St} {H H' : Hp} {s : Shared} {b : Addr} (I : Inv X pins σ H s) (hb : s.heap.objs.size ≤ b) (hn : H' b = none) : FpOk X pins H' b := by
  refine ⟨hn, Nat.ne_of_gt (Nat.lt_of_lt_of_le I.lt hb), I.nofs hb, .inr (Nat.le_trans I.sz hb), fun x c e z => ?_, fun p hp z => ?_⟩
  · obtain ⟨v, q⟩ := I.cell x c e
    exact absurd (Nat.lt_of_lt_of_le q.lt (by rw [z]; exact hb)) (Nat.lt_irrefl _)
  · exact absurd (Nat.lt_of_lt_of_le (Heap.lt_size (I.pin p hp).1) (by rw [z]; exact hb)) (Nat.lt_irrefl _)
structure Turn0 (Cc : Cx → Prop) (P : Program) (w : World) (K : PySem.W.Frag) (tg : Expr) (J : It) (fp : List Addr) (it : Addr) (tn : Nat → Heap → Prop) : Prop where
  mem : it ∈ fp
  obj : ∀ i h, tn i h → ∀ b ∈ fp, ∃ o, h.get? b = some o ∧ ∀ v, o.data ≠ .cell v
  keep : ∀ i h h', tn i h → (∀ b ∈ fp, ∀ o, h.get? b = some o → h'.get? b = some o) → tn i h'
  item : ∀ (X : Cx), X.prog = P → X.w = w → X.K = K → Cc X → ∀ (i : Nat) (pins : List (Addr × Obj)) (s : Shared) (σ : St) (H : Hp) (E : Value → Shared → Prop), Inv X pins σ H s → (∀ b ∈ fp, FpOk X pins H b) → tn i s.heap → J.go i H →
    wpAny (model P w) X.A (pyNext (.ref it)) (fun r s1 => ∃ u, r = some u ∧
      wpAny (model P w) X.A (letOwnedTupleGo tg (.ref it) u) (fun _ s2 => ∃ x H', Inv X pins σ H' s2 ∧ RelV x u ∧ J.yld i H x H' ∧ tn (i + 1) s2.heap ∧ ∀ b ∈ fp, H' b = none) E s1) E s
  done : ∀ (X : Cx), X.prog = P → X.w = w → X.K = K → Cc X → ∀ (i : Nat) (pins : List (Addr × Obj)) (s : Shared) (σ : St) (H : Hp) (E : Value → Shared → Prop), Inv X pins σ H s → (∀ b ∈ fp, FpOk X pins H b) → tn i s.heap → J.stop i H →
    wpAny (model P w) X.A (pyNext (.ref it)) (fun r s1 => r = none ∧ Inv X pins σ H s1) E s
  self : ∀ (A : Around) (i : Nat) (s : Shared) (Q : Value → Shared → Prop) (E : Value → Shared → Prop), tn i s.heap → Q (.ref it) s → wpAny (model P w) A (pyIter (.ref it)) Q E s
abbrev Turn := Turn0 fun X => X.calm = true
abbrev TI := St → Hp → (It → Hp → Prop) → Prop
def PIE0 (Cc : Cx → Prop) (X : Cx) (pins : List (Addr × Obj)) (σ : St) (tg : Expr) (R : It → Hp → Prop) (itv : Value) (s2 : Shared) : Prop :=
  ∃ (it : Addr) (fp : List Addr) (tn : Nat → Heap → Prop) (J : It) (H' : Hp), itv = .ref it ∧ Inv X pins σ H' s2 ∧ Turn0 Cc X.prog X.w X.K tg J fp it tn ∧ tn 0 s2.heap ∧ (∀ b ∈ fp, FpOk X pins H' b) ∧ R J H'
def PI0 (Cc : Cx → Prop) (X : Cx) (tg iter : Expr) (wi : TI) : Prop :=
  ∀ (pins : List (Addr × Obj)) (s : Shared) (σ : St) (H : Hp) (R : It → Hp → Prop), Inv X pins σ H s → wi σ H R →
    wpAny (model X.prog X.w) X.A (eval iter X.env) (fun v s1 => wpAny (model X.prog X.w) X.A (pyIter v) (PIE0 Cc X pins σ tg R) X.xe s1) X.xe s
abbrev PIE := PIE0 fun X => X.calm = true
abbrev PI := PI0 fun X => X.calm = true
theorem go_of {M : Model} {A : Around} {E : Value → Shared → Prop} {s : Shared} {tg : Expr} {it : Addr} {u : Value} {o : Obj} {n : String} {vs : Array Value} {Q : Unit → Shared → Prop} (ho : s.heap.get? it = some o) (hc : o.cls = .type n) (hd : o.data = .fields vs)
    (hn : ["enumerate", "zip", "dict_itemiterator", "dict_reverseitemiterator", "odict_iterator", "itertools.zip_longest", "itertools.pairwise"].contains n = false) (hQ : Q () s) : wpAny M A (letOwnedTupleGo tg (.ref it) u) Q E s := by
  unfold letOwnedTupleGo
  cases tg <;> first
    | exact wpAny_pure hQ
    | (cases u <;> first
        | exact wpAny_pure hQ
        | (refine wpAny_bind (wpAny_load ho ?_)
           rw [hc, hd]
           show wpAny M A (if (["enumerate", "zip", "dict_itemiterator", "dict_reverseitemiterator", "odict_iterator", "itertools.zip_longest", "itertools.pairwise"].contains n && vs[0]? == some (rawInt _)) = true then _ else _) Q E s
           rw [if_neg (by intro h; rw [hn, Bool.false_and] at h; cases h)]
           exact wpAny_pure hQ))
def Itl (K : PySem.W.Frag) (a : Addr) : It :=
  ⟨fun i H => ∃ xs x, SqL K H a xs ∧ xs[i]? = some x, fun i H x H' => H' = H ∧ ∀ xs, SqL K H a xs → xs[i]? = some x, fun i H => ∃ xs, SqL K H a xs ∧ xs.length ≤ i⟩
def Itr (lo : Int) (n : Nat) : It := ⟨fun i _ => i < n, fun i H x H' => H' = H ∧ x = .int (lo + i), fun i _ => n ≤ i⟩
theorem turn_list {P : Program} {w : World} {K : PySem.W.Frag} {tg : Expr} (a it : Addr) : Turn P w K tg (Itl K a) [it] it (fun i h => h.IsListIter it a i) where
  mem := by simp
  obj := fun i h st b hb => by
    have e : b = it := by simpa using hb
    subst e
    obtain ⟨o, e, c, d⟩ := st
    exact ⟨o, e, fun v z => by rw [d] at z; cases z⟩
  keep := fun i h h' st k => st.at fun o e => k it (by simp) o e
  item := by
    intro X hP hw hK hc i pins s σ H E I hf st hg
    subst hP hw hK
    obtain ⟨xs, x, hq, hx⟩ := hg
    obtain ⟨its, rv, p, hz⟩ := I.list hq
    obtain ⟨u, hu, ru⟩ := rv.get hx
    obtain ⟨f0, f1, f2, f3, f4, f5⟩ := hf it (by simp)
    refine wpAny_pyNext_list_item st p.isList (x := u) (by simpa using hu) fun h' st' sb => ?_
    have I1 : Inv X pins σ H { s with heap := h' } := I.turned (t' := s.toks) (fun b o hb e => (sb.2 b hb).trans e) f0 f1 f3 f4 f5
    obtain ⟨o, e, c, d⟩ := id st'
    exact ⟨u, rfl, go_of (s := { s with heap := h' }) e c d (by decide) ⟨x, H, I1, ru, ⟨rfl, fun ys hy => by rw [I.list_inj hy hq]; exact hx⟩, st', fun b hb => (hf b hb).1⟩⟩
  done := by
    intro X hP hw hK hc i pins s σ H E I hf st hg
    subst hP hw hK
    obtain ⟨xs, hq, hx⟩ := hg
    obtain ⟨its, rv, p, hz⟩ := I.list hq
    obtain ⟨f0, f1, f2, f3, f4, f5⟩ := hf it (by simp)
    have hl := rv.length
    exact wpAny_pyNext_list_end (I.ok.hd hc) st p.isList (by simp; omega) fun h' eb => ⟨rfl, I.turned (t' := s.toks) (fun b o hb e => eb b o hb e) f0 f1 f3 f4 f5⟩
  self := fun _ _ _ _ _ st h => wpAny_pyIter_listiter st h
theorem turn_range {P : Program} {w : World} {K : PySem.W.Frag} {tg : Expr} (it : Addr) (lo : Int) (n : Nat) : Turn P w K tg (Itr lo n) [it] it (fun i h => IsRangeIter h it (lo + (i : Nat) * 1) ((n : Int) - (i : Nat)) 1) where
  mem := by simp
  obj := fun i h st b hb => by
    have e : b = it := by simpa using hb
    subst e
    exact ⟨_, st, fun v z => by
      have z' : Data.fields _ = Data.cell v := z
      cases z'⟩
  keep := fun i h h' st k => k it (by simp) _ st
  item := by
    intro X hP hw hK hc i pins s σ H E I hf st hg
    subst hP hw hK
    obtain ⟨f0, f1, f2, f3, f4, f5⟩ := hf it (by simp)
    have W := Walks.range (prog := X.prog) (w := X.w) (I.ok.hd hc) it lo 1 n
    refine W.item i s _ _ hg st fun v h' tk hv st' kk => ?_
    obtain ⟨t, rfl⟩ := hv
    have I1 : Inv X pins σ H { s with heap := h', toks := tk } := I.turned (fun b o hb e => kk b o (by simpa using hb) e) f0 f1 f3 f4 f5
    refine ⟨_, rfl, go_of (s := { s with heap := h', toks := tk }) (n := "range_iterator") st' rfl rfl (by decide) ⟨.int (lo + i), H, I1, ⟨t, ?_⟩, ⟨rfl, rfl⟩, st', fun b hb => (hf b hb).1⟩⟩
    rw [Int.mul_one]
  done := by
    intro X hP hw hK hc i pins s σ H E I hf st hg
    subst hP hw hK
    obtain ⟨f0, f1, f2, f3, f4, f5⟩ := hf it (by simp)
    exact wpAny_pyNext_range_end (I.ok.hd hc) st (by have : n ≤ i := hg; omega) fun h' eb => ⟨rfl, I.turned (t' := s.toks) (fun b o hb e => eb b o hb e) f0 f1 f3 f4 f5⟩
  self := fun _ _ _ _ _ st h => wpAny_pyIter_rangeiter st h
end L2
namespace L2
open PySem PySem.Spec PyProof.Rows
section
variable {X : Cx} {tg : Expr}
def iList (K : PySem.W.Frag) (tl : TE) : TI := fun σ H R => tl σ H fun x H1 => ∃ a, x = .ref a ∧ (∃ xs, SqL K H1 a xs) ∧ R (Itl K a) H1
theorem pi_list {l : Expr} {tl : TE} (hl : PE X l tl) : PI X tg l (iList X.K tl) := by
  intro pins s σ H R I h
  refine thn (hl pins s σ H _ I h) fun v s1 ⟨x, H1, I1, r1, q1⟩ => ?_
  obtain ⟨a, e, ⟨xs, hq⟩, q⟩ := q1
  subst e
  cases r1
  obtain ⟨its, rv, p, hz⟩ := I1.list hq
  refine wpAny_pyIter_list p.isList ?_
  refine ⟨s1.heap.objs.size, [s1.heap.objs.size], _, _, H1, rfl, I1.kept (t' := s1.toks) fun b o e => Heap.get?_push_of_some _ e, turn_list a _, ⟨_, Heap.get?_push_size _ rfl, rfl, rfl⟩, fun b hb => ?_, q⟩
  have e : b = s1.heap.objs.size := by simpa using hb
  subst e
  exact I1.fpOk (Nat.le_refl _) (I1.hok.fresh (Nat.le_refl _))
theorem range_it {pins : List (Addr × Obj)} {σ : St} {H : Hp} {s : Shared} {R : It → Hp → Prop} {E : Value → Shared → Prop} {lo hi : Int} {t u v : Tok} {tk : Nat} (I : Inv X pins σ H s) (h1 : -(2 ^ 62) ≤ lo) (h2 : lo < 2 ^ 62) (h3 : -(2 ^ 62) ≤ hi) (h4 : hi < 2 ^ 62)
    (q : R (Itr lo (hi - lo).toNat) H) : wpAny (model X.prog X.w) X.A (pyIter (.ref s.heap.objs.size)) (PIE X pins σ tg R) E { s with heap := s.heap.push { cls := .type "range", data := .fields #[.int lo t, .int hi u, .int 1 v] }, toks := tk } := by
  refine wpAny_pyIter_range (IsRange.new ..) (small_one h1 h2 h3 h4) ?_
  have I1 : Inv X pins σ H { s with heap := s.heap.push { cls := .type "range", data := .fields #[.int lo t, .int hi u, .int 1 v] }, toks := tk } := I.kept fun b o e => Heap.get?_push_of_some _ e
  refine ⟨(s.heap.push { cls := .type "range", data := .fields #[.int lo t, .int hi u, .int 1 v] }).objs.size, [(s.heap.push { cls := .type "range", data := .fields #[.int lo t, .int hi u, .int 1 v] }).objs.size], _, _, H, rfl,
    I1.kept (t' := tk) fun b o e => Heap.get?_push_of_some _ e, turn_range _ lo (hi - lo).toNat, ?_, fun b hb => ?_, q⟩
  · have e1 : lo + ((0 : Nat) : Int) * 1 = lo := by simp
    have e2 : (((hi - lo).toNat : Nat) : Int) - ((0 : Nat) : Int) = Builtin.Range.rangeSize lo hi 1 := by rw [rangeSize_one]; split <;> omega
    show IsRangeIter _ _ (lo + ((0 : Nat) : Int) * 1) ((((hi - lo).toNat : Nat) : Int) - ((0 : Nat) : Int)) 1
    rw [e1, e2]
    exact Heap.get?_push_size _ rfl
  · have e : b = (s.heap.push { cls := .type "range", data := .fields #[.int lo t, .int hi u, .int 1 v] }).objs.size := by simpa using hb
    subst e
    exact I1.fpOk (Nat.le_refl _) (I1.hok.fresh (Nat.le_refl _))
def iRng1 (ta : TA) : TI := fun σ H R => ta σ H fun vs H1 => ∃ j : Int, vs = [.int j] ∧ -(2 ^ 62) ≤ j ∧ j < 2 ^ 62 ∧ R (Itr 0 j.toNat) H1
def iRng2 (ta : TA) : TI := fun σ H R => ta σ H fun vs H1 => ∃ i j : Int, vs = [.int i, .int j] ∧ (-(2 ^ 62) ≤ i ∧ i < 2 ^ 62 ∧ -(2 ^ 62) ≤ j ∧ j < 2 ^ 62) ∧ R (Itr i (j - i).toNat) H1
theorem pi_range1 {a : Expr} {ta : TA} {p pos : Pos} (hg : Gl X "range") (hm : X.mg "range" = none) (ha : PA X [a] ta) (hs : starEach [a] X.env = [(false, eval a X.env)] := by rfl) : PI X tg (.Call (.Name "range" p) [a] [] pos) (iRng1 ta) := by
  intro pins s σ H R I h
  refine Call_ (ld_blt I hg hm boot_range (PyProof.Rows.callWith_type1 (thn (ha pos pins s σ H _ I h) fun us s1 ⟨vs, H1, I1, r1, q1⟩ => ?_) hs rfl))
  obtain ⟨j, e, q1, q2, q⟩ := q1
  subst e
  cases r1 with
  | cons r rr =>
    cases rr
    obtain ⟨t, rfl⟩ := r
    exact call_range_1 (range_it I1 (by omega) (by omega) q1 q2 (by simpa using q))
theorem pi_range2 {a b : Expr} {ta : TA} {p pos : Pos} (hg : Gl X "range") (hm : X.mg "range" = none) (ha : PA X [a, b] ta) (hs : starEach [a, b] X.env = [(false, eval a X.env), (false, eval b X.env)] := by rfl) (hs2 : starEach [b] X.env = [(false, eval b X.env)] := by rfl) :
    PI X tg (.Call (.Name "range" p) [a, b] [] pos) (iRng2 ta) := by
  intro pins s σ H R I h
  refine Call_ (ld_blt I hg hm boot_range (PyProof.Rows.callWith_type1 (thn (ha pos pins s σ H _ I h) fun us s1 ⟨vs, H1, I1, r1, q1⟩ => ?_) (by rw [hs, hs2]) (by rw [hs2]; rfl)))
  obtain ⟨i, j, e, ⟨q1, q2, q3, q4⟩, q⟩ := q1
  subst e
  cases r1 with
  | cons r rr =>
    cases rr with
    | cons r' rr =>
      cases rr
      obtain ⟨t, rfl⟩ := r
      obtain ⟨t', rfl⟩ := r'
      exact call_range_2 (range_it I1 q1 q2 q3 q4 q)
def tFor (wi : TI) (g : TG) (tb : TS) : TS := fun D σ H => wi σ H fun J H1 => ∃ W : Nat → Nat → St → Hp → Prop, (∃ m, W 0 m σ H1) ∧ ∀ i m σ H, W i m σ H →
  (J.stop i H ∧ D.nx σ H) ∨ (J.go i H ∧ ∃ N : St → Hp → Prop, (∀ σ' H', N σ' H' → ∃ m', m' < m ∧ W (i + 1) m' σ' H') ∧ ∀ x H', J.yld i H x H' → g x σ H' fun σ2 H2 => tb { D with nx := N, ct := N, bk := D.nx } σ2 H2)
def pinsAt (fp : List Addr) (h : Heap) : List (Addr × Obj) := fp.filterMap fun b => (h.get? b).map fun o => (b, o)
theorem mem_pinsAt {fp : List Addr} {h : Heap} {b : Addr} {o : Obj} (hb : b ∈ fp) (e : h.get? b = some o) : (b, o) ∈ pinsAt fp h := List.mem_filterMap.mpr ⟨b, hb, by rw [e]; rfl⟩
theorem of_pinsAt {fp : List Addr} {h : Heap} {p : Addr × Obj} (hp : p ∈ pinsAt fp h) : p.1 ∈ fp ∧ h.get? p.1 = some p.2 := by
  obtain ⟨b, hb, e⟩ := List.mem_filterMap.mp hp
  cases q : h.get? b with
  | none => rw [q] at e; cases e
  | some o =>
    rw [q] at e
    have e' : (b, o) = p := Option.some.inj e
    subst e'
    exact ⟨hb, q⟩
theorem Inv.pinned {pins : List (Addr × Obj)} {σ : St} {H : Hp} {s : Shared} {fp : List Addr} (I : Inv X pins σ H s) (hf : ∀ b ∈ fp, FpOk X pins H b) (ho : ∀ b ∈ fp, ∃ o, s.heap.get? b = some o ∧ ∀ v, o.data ≠ .cell v) : Inv X (pins ++ pinsAt fp s.heap) σ H s :=
  I.pins_of fun p hp => (List.mem_append.mp hp).elim (fun z => I.pin p (List.mem_append_right _ z)) fun z => by
    obtain ⟨hb, e⟩ := of_pinsAt z
    obtain ⟨f0, f1, f2, _⟩ := hf p.1 hb
    obtain ⟨o, e', d⟩ := ho p.1 hb
    rw [e] at e'; cases e'
    exact ⟨e, f0, f1, f2, d⟩
theorem Inv.unpinned {pins pl : List (Addr × Obj)} {σ : St} {H : Hp} {s : Shared} (I : Inv X (pins ++ pl) σ H s) : Inv X pins σ H s := I.pins_of fun p hp => I.pin p (List.mem_append_right _ (List.mem_append_left _ hp))
theorem ps_for {iter : Expr} {body : List Stmt} {wi : TI} {g : TG} {tb : TS} {pos : Pos} (hp : PassesOwn (model X.prog X.w) X.A X.env X.xe) (hc : X.calm = true) (hi : PI X tg iter wi) (hg : PG X tg g) (hb : PSs X body tb)
    (hs : ∀ x, foldedSetIterable iter X.env x = pure x := by intro _; rfl) : PS X (.For tg iter body [] pos) (tFor wi g tb) := by
  intro pins s σ H D I h
  refine wpAny_For (thn (hi pins s σ H _ I h) fun v s1 h1 => thn h1 fun itv s2 h2 => ?_) hs
  obtain ⟨it, fp, tn, J, H2, e, I2, T, st2, f2, W, ⟨m0, w0⟩, turn⟩ := h2
  subst e
  have stat : ∀ {H' : Hp}, (∀ b ∈ fp, H' b = none) → ∀ b ∈ fp, FpOk X pins H' b := fun hn b hb => ⟨hn b hb, (f2 b hb).2⟩
  refine codeAny_forLoop_any (fun n s' => ∃ i σ' H', Inv X pins σ' H' s' ∧ tn i s'.heap ∧ (∀ b ∈ fp, H' b = none) ∧ W i n σ' H') ?_ m0 ⟨0, σ, H2, I2, st2, fun b hb => (f2 b hb).1, w0⟩
  rintro n s3 ⟨i, σ3, H3, I3, st3, fr3, w3⟩
  rcases turn i n σ3 H3 w3 with ⟨stop, qn⟩ | ⟨go, N, hN, step⟩
  · refine wpAny_passesOwn hp (thn (T.done X rfl rfl rfl hc i pins s3 σ3 H3 X.xe I3 (stat fr3) st3 stop) fun r s4 ⟨hr, I4⟩ => ?_)
    subst hr
    exact wpAny_execs_nil ⟨σ3, H3, I4, qn⟩
  · refine wpAny_passesOwn hp (thn (T.item X rfl rfl rfl hc i pins s3 σ3 H3 X.xe I3 (stat fr3) st3 go) fun r s4 ⟨u, hr, h4⟩ => ?_)
    subst hr
    refine wpAny_passesOwn hp (thn h4 fun _ s5 ⟨x, H5, I5, r5, y5, st5, fr5⟩ => ?_)
    have I5' := I5.pinned (stat fr5) (T.obj _ _ st5)
    refine wpAny_passesOwn hp (thn (hg _ s5 σ3 H5 x u _ I5' r5 (step x H5 y5)) fun _ s6 ⟨σ6, H6, I6, q6⟩ => ?_)
    refine wpAny_passesOwn hp (thn (hb _ s6 σ6 H6 _ I6 q6) fun f s7 q7 => ?_)
    have again : ∀ {σ7 : St} {H7 : Hp}, Inv X (pins ++ pinsAt fp s5.heap) σ7 H7 s7 → N σ7 H7 → ∃ m, m < n ∧ ∃ i σ' H', Inv X pins σ' H' s7 ∧ tn i s7.heap ∧ (∀ b ∈ fp, H' b = none) ∧ W i m σ' H' := fun {σ7 H7} I7 n7 => by
      obtain ⟨m', hm, w7⟩ := hN σ7 H7 n7
      refine ⟨m', hm, i + 1, σ7, H7, I7.unpinned, T.keep _ _ _ st5 fun b hb o e => (I7.pin (b, o) (List.mem_append_right _ (List.mem_append_right _ (mem_pinsAt hb e)))).1, fun b hb => ?_, w7⟩
      obtain ⟨o, e, d⟩ := T.obj _ _ st5 b hb
      exact (I7.pin (b, o) (List.mem_append_right _ (List.mem_append_right _ (mem_pinsAt hb e)))).2.1
    cases f with
    | next => obtain ⟨σ7, H7, I7, n7⟩ := q7; exact again I7 n7
    | cont => obtain ⟨σ7, H7, I7, n7⟩ := q7; exact again I7 n7
    | brk => obtain ⟨σ7, H7, I7, q7⟩ := q7; exact ⟨σ7, H7, I7.unpinned, q7⟩
    | ret v => obtain ⟨x7, σ7, H7, I7, r7, q7⟩ := q7; exact ⟨x7, σ7, H7, I7.unpinned, r7, q7⟩
end
theorem for_list {K : PySem.W.Frag} {a : Addr} {xs : List V} {g : TG} {tb : TS} {D : Ends} {σ : St} {H : Hp} (Pv : Nat → St → Hp → Prop) (h0 : Pv 0 σ H) (hl : ∀ i σ H, i ≤ xs.length → Pv i σ H → SqL K H a xs)
    (hs : ∀ i x σ H, xs[i]? = some x → Pv i σ H → g x σ H fun σ2 H2 => tb { D with nx := Pv (i + 1), ct := Pv (i + 1), bk := D.nx } σ2 H2) (hd : ∀ σ H, Pv xs.length σ H → D.nx σ H) :
    ∃ W : Nat → Nat → St → Hp → Prop, (∃ m, W 0 m σ H) ∧ ∀ i m σ H, W i m σ H →
      ((Itl K a).stop i H ∧ D.nx σ H) ∨ ((Itl K a).go i H ∧ ∃ N : St → Hp → Prop, (∀ σ' H', N σ' H' → ∃ m', m' < m ∧ W (i + 1) m' σ' H') ∧ ∀ x H', (Itl K a).yld i H x H' → g x σ H' fun σ2 H2 => tb { D with nx := N, ct := N, bk := D.nx } σ2 H2) := by
  refine ⟨fun i m σ H => m = xs.length - i ∧ i ≤ xs.length ∧ Pv i σ H, ⟨xs.length, by simp, Nat.zero_le _, h0⟩, ?_⟩
  rintro i m σ H ⟨rfl, hi, p⟩
  have q := hl i σ H hi p
  by_cases hlt : i < xs.length
  · refine .inr ⟨⟨xs, xs[i], q, by simp [hlt]⟩, Pv (i + 1), fun σ' H' p' => ⟨xs.length - (i + 1), by omega, rfl, hlt, p'⟩, fun x H' y => ?_⟩
    obtain ⟨e, y⟩ := y
    subst e
    exact hs i x σ _ (y xs q) p
  · have e : i = xs.length := by omega
    subst e
    exact .inl ⟨⟨xs, q, Nat.le_refl _⟩, hd σ H p⟩
theorem for_range {lo : Int} {n : Nat} {g : TG} {tb : TS} {D : Ends} {σ : St} {H : Hp} (Pv : Nat → St → Hp → Prop) (h0 : Pv 0 σ H)
    (hs : ∀ i σ H, i < n → Pv i σ H → g (.int (lo + i)) σ H fun σ2 H2 => tb { D with nx := Pv (i + 1), ct := Pv (i + 1), bk := D.nx } σ2 H2) (hd : ∀ σ H, Pv n σ H → D.nx σ H) :
    ∃ W : Nat → Nat → St → Hp → Prop, (∃ m, W 0 m σ H) ∧ ∀ i m σ H, W i m σ H →
      ((Itr lo n).stop i H ∧ D.nx σ H) ∨ ((Itr lo n).go i H ∧ ∃ N : St → Hp → Prop, (∀ σ' H', N σ' H' → ∃ m', m' < m ∧ W (i + 1) m' σ' H') ∧ ∀ x H', (Itr lo n).yld i H x H' → g x σ H' fun σ2 H2 => tb { D with nx := N, ct := N, bk := D.nx } σ2 H2) := by
  refine ⟨fun i m σ H => m = n - i ∧ i ≤ n ∧ Pv i σ H, ⟨n, by simp, Nat.zero_le _, h0⟩, ?_⟩
  rintro i m σ H ⟨rfl, hi, p⟩
  by_cases hlt : i < n
  · refine .inr ⟨hlt, Pv (i + 1), fun σ' H' p' => ⟨n - (i + 1), by omega, rfl, hlt, p'⟩, fun x H' y => ?_⟩
    obtain ⟨e, y⟩ := y
    subst e y
    exact hs i σ _ hlt p
  · have e : i = n := by omega
    subst e
    exact .inl ⟨Nat.le_refl _, hd σ H p⟩
end L2
namespace L2
open PySem PySem.Spec PyProof.Rows
abbrev R2 := V → V → Hp → VK → Prop
def OpR (X : Cx) (f : Value → Value → Sem Value) (r : R2) : Prop :=
  ∀ (pins : List (Addr × Obj)) (s : Shared) (σ : St) (H : Hp) (x y : V) (v u : Value) (Q : VK), Inv X pins σ H s → RelV x v → RelV y u → r x y H Q →
    wpAny (model X.prog X.w) X.A (f v u) (EP X pins σ Q) X.xe s
def UnR (X : Cx) (f : Value → Sem Value) (r : V → Hp → VK → Prop) : Prop :=
  ∀ (pins : List (Addr × Obj)) (s : Shared) (σ : St) (H : Hp) (x : V) (v : Value) (Q : VK), Inv X pins σ H s → RelV x v → r x H Q →
    wpAny (model X.prog X.w) X.A (f v) (EP X pins σ Q) X.xe s
def CallR (X : Cx) (f : Value) (r : List V → Hp → VK → Prop) : Prop :=
  ∀ (pins : List (Addr × Obj)) (s : Shared) (σ : St) (H : Hp) (xs : List V) (us : List Value) (Q : VK), Inv X pins σ H s → Vals xs us → r xs H Q →
    wpAny (model X.prog X.w) X.A (call f us) (EP X pins σ Q) X.xe s
def tOp (r : R2) (ta tb : TE) : TE := fun σ H Q => ta σ H fun x H1 => tb σ H1 fun y H2 => r x y H2 Q
def tUn (r : V → Hp → VK → Prop) (ta : TE) : TE := fun σ H Q => ta σ H fun x H1 => r x H1 Q
def rI (C : Int → Int → Prop) (g : Int → Int → V) : R2 := fun x y H Q => ∃ i j, x = .int i ∧ y = .int j ∧ C i j ∧ Q (g i j) H
def rI0 (g : Int → Int → V) : R2 := fun x y H Q => ∃ i j, x = .int i ∧ y = .int j ∧ Q (g i j) H
def rU (g : Int → V) : V → Hp → VK → Prop := fun x H Q => ∃ i, x = .int i ∧ Q (g i) H
section
variable {X : Cx} {a b c : Expr} {ta tb tc : TE} {pos : Pos}
theorem binT (ha : PE X a ta) (hb : PE X b tb) {pins : List (Addr × Obj)} {s : Shared} {σ : St} {H : Hp} {R : V → V → Hp → Prop} (I : Inv X pins σ H s)
    (h : ta σ H fun x H1 => tb σ H1 fun y H2 => R x y H2) {Q : Value → Shared → Prop} {f : Value → Value → Sem Value}
    (hf : ∀ v u s2 x y H2, Inv X pins σ H2 s2 → RelV x v → RelV y u → R x y H2 → wpAny (model X.prog X.w) X.A (f v u) Q X.xe s2) :
    wpAny (model X.prog X.w) X.A (eval a X.env) (fun v s₁ => wpAny (model X.prog X.w) X.A (eval b X.env) (fun u s₂ => wpAny (model X.prog X.w) X.A (f v u) Q X.xe s₂) X.xe s₁) X.xe s := by
  refine thn (ha pins s σ H _ I h) fun v s1 ⟨x, H1, I1, r1, q1⟩ => ?_
  refine thn (hb pins s1 σ H1 _ I1 q1) fun u s2 ⟨y, H2, I2, r2, q2⟩ => ?_
  exact hf v u s2 x y H2 I2 r1 r2 q2
theorem pe_op {op : Operator} {r : R2} (ho : OpR X (binaryOp op) r) (ha : PE X a ta) (hb : PE X b tb) : PE X (.BinOp a op b pos) (tOp r ta tb) := by
  intro pins s σ H Q I h
  exact wpAny_BinOp (binT ha hb I h fun v u s2 x y H2 I2 rx ry q => ho pins s2 σ H2 x y v u Q I2 rx ry q)
theorem pe_un {op : UnaryOp} {r : V → Hp → VK → Prop} (ho : UnR X (unaryOp op) r) (ha : PE X a ta) : PE X (.UnaryOp op a pos) (tUn r ta) := by
  intro pins s σ H Q I h
  exact UnaryOp_ (thn (ha pins s σ H _ I h) fun v s1 ⟨x, H1, I1, r1, q1⟩ => ho pins s1 σ H1 x v Q I1 r1 q1)
theorem opI {f : Value → Value → Sem Value} {C : Int → Int → Prop} {g : Int → Int → Int}
    (rule : ∀ (i j : Int) (t u : Tok) (s : Shared) (Q : Value → Shared → Prop) (E : Value → Shared → Prop), C i j → Q (.int (g i j) s.toks) { s with toks := s.toks + 1 } → wpAny (model X.prog X.w) X.A (f (.int i t) (.int j u)) Q E s) :
    OpR X f (rI C fun i j => .int (g i j)) := by
  intro pins s σ H x y v u Q I rx ry h
  obtain ⟨i, j, rfl, rfl, hc, q⟩ := h
  obtain ⟨t, rfl⟩ := rx
  obtain ⟨t', rfl⟩ := ry
  exact rule i j t t' s _ _ hc ⟨.int (g i j), H, I.tok _, ⟨_, rfl⟩, q⟩
theorem opI0 {f : Value → Value → Sem Value} {g : Int → Int → Int}
    (rule : ∀ (i j : Int) (t u : Tok) (s : Shared) (Q : Value → Shared → Prop) (E : Value → Shared → Prop), Q (.int (g i j) s.toks) { s with toks := s.toks + 1 } → wpAny (model X.prog X.w) X.A (f (.int i t) (.int j u)) Q E s) :
    OpR X f (rI0 fun i j => .int (g i j)) := by
  intro pins s σ H x y v u Q I rx ry h
  obtain ⟨i, j, rfl, rfl, q⟩ := h
  obtain ⟨t, rfl⟩ := rx
  obtain ⟨t', rfl⟩ := ry
  exact rule i j t t' s _ _ ⟨.int (g i j), H, I.tok _, ⟨_, rfl⟩, q⟩
theorem opB0 {f : Value → Value → Sem Value} {g : Int → Int → Bool}
    (rule : ∀ (i j : Int) (t u : Tok) (s : Shared) (Q : Value → Shared → Prop) (E : Value → Shared → Prop), Q (.bool (g i j)) s → wpAny (model X.prog X.w) X.A (f (.int i t) (.int j u)) Q E s) :
    OpR X f (rI0 fun i j => .bl (g i j)) := by
  intro pins s σ H x y v u Q I rx ry h
  obtain ⟨i, j, rfl, rfl, q⟩ := h
  obtain ⟨t, rfl⟩ := rx
  obtain ⟨t', rfl⟩ := ry
  exact rule i j t t' s _ _ ⟨.bl (g i j), H, I, rfl, q⟩
def CDiv (i j : Int) : Prop := 0 < j ∧ j < 1073741824
def CMul (i j : Int) : Prop := (-(2 ^ 64) < i ∧ i < 2 ^ 64) ∨ (-(2 ^ 64) < j ∧ j < 2 ^ 64)
theorem CMul.ok {i j : Int} (h : CMul i j) : IntMulOk i j := by
  rcases h with ⟨h1, h2⟩ | ⟨h1, h2⟩
  · exact .of_left (intBits_le_64 h1 h2)
  · exact .of_right (intBits_le_64 h1 h2)
theorem op_add : OpR X (binaryOp .Add) (rI0 fun i j => .int (i + j)) := opI0 fun _ _ _ _ _ _ _ q => add_int q
theorem op_sub : OpR X (binaryOp .Sub) (rI0 fun i j => .int (i - j)) := opI0 fun _ _ _ _ _ _ _ q => sub_int q
theorem op_mul : OpR X (binaryOp .Mult) (rI CMul fun i j => .int (i * j)) := opI fun _ _ _ _ _ _ _ hc q => mul_int q hc.ok
theorem op_fdiv : OpR X (binaryOp .FloorDiv) (rI CDiv fun i j => .int (i / j)) := opI fun i j _ _ _ _ _ hc q => by
  have h1 : (0 : Int) < j := hc.1
  have h2 : j < 1073741824 := hc.2
  exact floordiv_int (by omega) (by rw [Int.fdiv_eq_ediv_of_nonneg i (by omega)]; exact q) (.inl (PyProof.noPylong_small (by omega)))
theorem op_mod : OpR X (binaryOp .Mod) (rI (fun _ j => 0 < j) fun i j => .int (i % j)) := opI fun i j _ _ _ _ _ hc q => by
  have h1 : (0 : Int) < j := hc
  exact mod_int' (by omega) (by rw [Int.fmod_eq_emod_of_nonneg i (by omega)]; exact q)
theorem unI {f : Value → Sem Value} {g : Int → Int}
    (rule : ∀ (i : Int) (t : Tok) (s : Shared) (Q : Value → Shared → Prop) (E : Value → Shared → Prop), Q (.int (g i) s.toks) { s with toks := s.toks + 1 } → wpAny (model X.prog X.w) X.A (f (.int i t)) Q E s) :
    UnR X f (rU fun i => .int (g i)) := by
  intro pins s σ H x v Q I rx h
  obtain ⟨i, rfl, q⟩ := h
  obtain ⟨t, rfl⟩ := rx
  exact rule i t s _ _ ⟨.int (g i), H, I.tok _, ⟨_, rfl⟩, q⟩
theorem un_neg : UnR X (unaryOp .USub) (rU fun i => .int (-i)) := unI fun _ _ _ _ _ q => neg_int q
end
def scal : V → V → Bool
  | .non, .non => true | .non, .int _ => true | .int _, .non => true | .non, .bl _ => true | .bl _, .non => true | .non, .str _ => true | .str _, .non => true
  | .int _, .int _ => true | .bl _, .bl _ => true | .str _, .str _ => true | .byt _, .byt _ => true
  | .int _, .str _ => true | .str _, .int _ => true | .bl _, .str _ => true | .str _, .bl _ => true
  | _, _ => false
def rEq : R2 := fun x y H Q => scal x y = true ∧ Q (.bl (decide (x = y))) H
def rNe : R2 := fun x y H Q => scal x y = true ∧ Q (.bl (!decide (x = y))) H
theorem dec_int {i j : Int} : decide (V.int i = V.int j) = (i == j) := by
  rw [Bool.eq_iff_iff]
  simp
theorem dec_bl {i j : Bool} : decide (V.bl i = V.bl j) = (i == j) := by
  rw [Bool.eq_iff_iff]
  simp
theorem dec_str {i j : Str} : decide (V.str i = V.str j) = (i == j) := by
  rw [Bool.eq_iff_iff]
  simp
theorem dec_byt {i j : Array UInt8} : decide (V.byt i = V.byt j) = (i.toList == j.toList) := by
  rw [Bool.eq_iff_iff]
  cases i
  cases j
  simp
section
variable {X : Cx} {a b c : Expr} {ta tb tc : TE} {pos : Pos}
theorem fin_bl {pins : List (Addr × Obj)} {σ : St} {H : Hp} {s : Shared} {Q : VK} {k k' : Bool} (I : Inv X pins σ H s) (q : Q (.bl k) H) (e : k = k') : EP X pins σ Q (.bool k') s := by
  subst e
  exact ⟨.bl k, H, I, rfl, q⟩
theorem op_eq : OpR X (compareOp .Eq) rEq := by
  intro pins s σ H x y v u Q I rx ry h
  obtain ⟨hs, q⟩ := h
  cases x with
  | non =>
    cases rx
    cases y with
    | non => cases ry; exact PySem.EqNone.eq_none_none (fin_bl I q (by simp))
    | bl j => cases ry; exact PySem.EqNone.eq_none_bool (fin_bl I q (by simp))
    | int j => obtain ⟨t', rfl⟩ := ry; exact PySem.EqNone.eq_none_int (fin_bl I q (by simp))
    | str j => obtain ⟨t', rfl⟩ := ry; exact PySem.EqNone.eq_none_str (fin_bl I q (by simp))
    | _ => exact absurd (show false = true from hs) Bool.false_ne_true
  | bl i =>
    cases rx
    cases y with
    | non => cases ry; exact PySem.EqNone.eq_bool_none (fin_bl I q (by simp))
    | bl j => cases ry; exact eq_bool (fin_bl I q dec_bl)
    | str j => obtain ⟨t', rfl⟩ := ry; exact PySem.EqMixed.eq_bool_str (fin_bl I q (by simp))
    | _ => exact absurd (show false = true from hs) Bool.false_ne_true
  | int i =>
    obtain ⟨t, rfl⟩ := rx
    cases y with
    | non => cases ry; exact PySem.EqNone.eq_int_none (fin_bl I q (by simp))
    | int j => obtain ⟨t', rfl⟩ := ry; exact eq_int (fin_bl I q dec_int)
    | str j => obtain ⟨t', rfl⟩ := ry; exact PySem.EqMixed.eq_int_str (fin_bl I q (by simp))
    | _ => exact absurd (show false = true from hs) Bool.false_ne_true
  | str i =>
    obtain ⟨t, rfl⟩ := rx
    cases y with
    | non => cases ry; exact PySem.EqNone.eq_str_none (fin_bl I q (by simp))
    | bl j => cases ry; exact PySem.EqMixed.eq_str_bool (fin_bl I q (by simp))
    | int j => obtain ⟨t', rfl⟩ := ry; exact PySem.EqMixed.eq_str_int (fin_bl I q (by simp))
    | str j => obtain ⟨t', rfl⟩ := ry; exact eq_str (fin_bl I q dec_str)
    | _ => exact absurd (show false = true from hs) Bool.false_ne_true
  | byt i =>
    obtain ⟨t, rfl⟩ := rx
    cases y with
    | byt j => obtain ⟨t', rfl⟩ := ry; exact PySem.W.eq_bytes (fin_bl I q dec_byt)
    | _ => exact absurd (show false = true from hs) Bool.false_ne_true
  | _ => cases y <;> exact absurd (show false = true from hs) Bool.false_ne_true
theorem op_ne : OpR X (compareOp .NotEq) rNe := by
  intro pins s σ H x y v u Q I rx ry h
  obtain ⟨hs, q⟩ := h
  cases x with
  | non =>
    cases rx
    cases y with
    | non => cases ry; exact PySem.EqNone.ne_none_none (fin_bl I q (by simp))
    | bl j => cases ry; exact PySem.EqNone.ne_none_bool (fin_bl I q (by simp))
    | int j => obtain ⟨t', rfl⟩ := ry; exact PySem.EqNone.ne_none_int (fin_bl I q (by simp))
    | str j => obtain ⟨t', rfl⟩ := ry; exact PySem.EqNone.ne_none_str (fin_bl I q (by simp))
    | _ => exact absurd (show false = true from hs) Bool.false_ne_true
  | bl i =>
    cases rx
    cases y with
    | non => cases ry; exact PySem.EqNone.ne_bool_none (fin_bl I q (by simp))
    | bl j => cases ry; exact ne_bool (fin_bl I q (congrArg not dec_bl))
    | str j => obtain ⟨t', rfl⟩ := ry; exact PySem.EqMixed.ne_bool_str (fin_bl I q (by simp))
    | _ => exact absurd (show false = true from hs) Bool.false_ne_true
  | int i =>
    obtain ⟨t, rfl⟩ := rx
    cases y with
    | non => cases ry; exact PySem.EqNone.ne_int_none (fin_bl I q (by simp))
    | int j => obtain ⟨t', rfl⟩ := ry; exact ne_int (fin_bl I q (congrArg not dec_int))
    | str j => obtain ⟨t', rfl⟩ := ry; exact PySem.EqMixed.ne_int_str (fin_bl I q (by simp))
    | _ => exact absurd (show false = true from hs) Bool.false_ne_true
  | str i =>
    obtain ⟨t, rfl⟩ := rx
    cases y with
    | non => cases ry; exact PySem.EqNone.ne_str_none (fin_bl I q (by simp))
    | bl j => cases ry; exact PySem.EqMixed.ne_str_bool (fin_bl I q (by simp))
    | int j => obtain ⟨t', rfl⟩ := ry; exact PySem.EqMixed.ne_str_int (fin_bl I q (by simp))
    | str j => obtain ⟨t', rfl⟩ := ry; exact ne_str (fin_bl I q (congrArg not dec_str))
    | _ => exact absurd (show false = true from hs) Bool.false_ne_true
  | byt i =>
    obtain ⟨t, rfl⟩ := rx
    cases y with
    | byt j => obtain ⟨t', rfl⟩ := ry; exact PySem.W.ne_bytes (fin_bl I q (congrArg not dec_byt))
    | _ => exact absurd (show false = true from hs) Bool.false_ne_true
  | _ => cases y <;> exact absurd (show false = true from hs) Bool.false_ne_true
theorem op_lt : OpR X (compareOp .Lt) (rI0 fun i j => .bl (decide (i < j))) := opB0 fun _ _ _ _ _ _ _ q => lt_int q
theorem op_le : OpR X (compareOp .LtE) (rI0 fun i j => .bl (decide (i ≤ j))) := opB0 fun _ _ _ _ _ _ _ q => le_int q
theorem op_gt : OpR X (compareOp .Gt) (rI0 fun i j => .bl (decide (j < i))) := opB0 fun _ _ _ _ _ _ _ q => gt_int q
theorem op_ge : OpR X (compareOp .GtE) (rI0 fun i j => .bl (decide (j ≤ i))) := opB0 fun _ _ _ _ _ _ _ q => ge_int q
theorem op_in_str : OpR X (compareOp .In) (fun x y H Q => ∃ i j, x = .str i ∧ y = .str j ∧ Q (.bl (!(Builtin.Str.occurrences j i 0 j.length 1).isEmpty)) H) := by
  intro pins s σ H x y v u Q I rx ry h
  obtain ⟨i, j, rfl, rfl, q⟩ := h
  obtain ⟨t, rfl⟩ := rx
  obtain ⟨t', rfl⟩ := ry
  exact in_str (fin_bl I q rfl)
theorem op_notN : OpR X (compareOp .IsNot) (fun x y H Q => y = .non ∧ Q (.bl (!decide (x = .non))) H) := by
  intro pins s σ H x y v u Q I rx ry h
  obtain ⟨rfl, q⟩ := h
  cases ry
  refine isnot_none_gen (fin_bl I q ?_)
  cases x <;> first
    | (cases rx; rfl)
    | (obtain ⟨t, rfl⟩ := rx; rfl)
theorem OpR.or {f : Value → Value → Sem Value} {r r' : R2} (h : OpR X f r) (h' : OpR X f r') : OpR X f (fun x y H Q => r x y H Q ∨ r' x y H Q) := by
  intro pins s σ H x y v u Q I rx ry q
  rcases q with q | q
  · exact h pins s σ H x y v u Q I rx ry q
  · exact h' pins s σ H x y v u Q I rx ry q
theorem nomark (b : Expr) {op : CmpOp} (h : op ≠ .In := by decide) (h2 : op ≠ .NotIn := by decide) : behindInMarks op b = false := by
  have e1 : (op == CmpOp.In) = false := by cases op <;> first | rfl | exact absurd rfl h
  have e2 : (op == CmpOp.NotIn) = false := by cases op <;> first | rfl | exact absurd rfl h2
  cases b <;> simp [behindInMarks, e1, e2]
theorem pe_cmpR {op : CmpOp} {r : R2} (ho : OpR X (compareOp op) r) (ha : PE X a ta) (hb : PE X b tb) (hm : behindInMarks op b = false) : PE X (.Compare a [op] [b] pos) (tOp r ta tb) := by
  intro pins s σ H Q I h
  exact wpAny_Compare1 (binT ha hb I h fun v u s2 x y H2 I2 rx ry q => ho pins s2 σ H2 x y v u Q I2 rx ry q) hm
def tTest (t : TE) : TT := fun σ H Q => t σ H fun x H' => ∃ k, x = .bl k ∧ Q k H'
theorem pt_cmpR {op : CmpOp} {r : R2} (ho : OpR X (compareOp op) r) (ha : PE X a ta) (hb : PE X b tb) (hm : behindInMarks op b = false) : PT X (.Compare a [op] [b] pos) (tTest (tOp r ta tb)) := by
  intro pins s σ H Q I h
  refine wpAny_isTrue_Compare1 (thn (ha pins s σ H _ I h) fun v s1 ⟨x, H1, I1, r1, q1⟩ => thn (hb pins s1 σ H1 _ I1 q1) fun u s2 ⟨y, H2, I2, r2, q2⟩ =>
    thn (ho pins s2 σ H2 x y v u _ I2 r1 r2 q2) fun c s3 ⟨z, H3, I3, r3, k, e, q3⟩ => ?_) hm
  subst e
  cases r3
  exact wpAny_truthy_bool ⟨H3, I3, q3⟩
def tChain (r r' : R2) (ta tb tc : TE) : TE := fun σ H Q => ta σ H fun x H1 => tb σ H1 fun y H2 => r x y H2 fun z H3 => ∃ k, z = .bl k ∧
  (if k = true then tc σ H3 fun w' H4 => r' y w' H4 Q else Q (.bl false) H3)
theorem pe_chain {op op' : CmpOp} {r r' : R2} (ho : OpR X (compareOp op) r) (ho' : OpR X (compareOp op') r') (ha : PE X a ta) (hb : PE X b tb) (hc : PE X c tc)
    (hm : lastMarks [op, op'] [b, c] = false := by with_unfolding_all rfl) : PE X (.Compare a [op, op'] [b, c] pos) (tChain r r' ta tb tc) := by
  intro pins s σ H Q I h
  refine Compare_chain (thn (ha pins s σ H _ I h) fun v s1 ⟨x, H1, I1, r1, q1⟩ => chain_link (thn (hb pins s1 σ H1 _ I1 q1) fun u s2 ⟨y, H2, I2, r2, q2⟩ =>
    thn (ho pins s2 σ H2 x y v u _ I2 r1 r2 q2) fun d s3 ⟨z, H3, I3, r3, k, e, q3⟩ => ?_)) hm
  subst e
  cases r3
  refine wpAny_truthy_bool ?_
  cases k with
  | false => exact ite_ff ⟨.bl false, H3, I3, rfl, q3⟩
  | true => exact ite_tt (chain_last (thn (hc pins s3 σ H3 _ I3 q3) fun w' s4 ⟨z', H4, I4, r4, q4⟩ => ho' pins s4 σ H4 y z' u w' Q I4 r2 r4 q4))
theorem pt_chain {op op' : CmpOp} {r r' : R2} (ho : OpR X (compareOp op) r) (ho' : OpR X (compareOp op') r') (ha : PE X a ta) (hb : PE X b tb) (hc : PE X c tc)
    (hm : lastMarks [op, op'] [b, c] = false := by with_unfolding_all rfl) : PT X (.Compare a [op, op'] [b, c] pos) (tTest (tChain r r' ta tb tc)) := by
  intro pins s σ H Q I h
  refine isTrue_chain (thn (ha pins s σ H _ I h) fun v s1 ⟨x, H1, I1, r1, q1⟩ => test_link (thn (hb pins s1 σ H1 _ I1 q1) fun u s2 ⟨y, H2, I2, r2, q2⟩ =>
    thn (ho pins s2 σ H2 x y v u _ I2 r1 r2 q2) fun d s3 ⟨z, H3, I3, r3, k, e, q3⟩ => ?_)) hm
  subst e
  cases r3
  refine wpAny_truthy_bool ?_
  cases k with
  | false =>
    obtain ⟨k', e', q'⟩ := q3
    cases e'
    exact ite_ff ⟨H3, I3, q'⟩
  | true =>
    refine ite_tt (test_last (thn (hc pins s3 σ H3 _ I3 q3) fun w' s4 ⟨z', H4, I4, r4, q4⟩ => thn (ho' pins s4 σ H4 y z' u w' _ I4 r2 r4 q4) fun d' s5 ⟨z2, H5, I5, r5, k2, e2, q5⟩ => ?_))
    subst e2
    cases r5
    exact wpAny_truthy_bool ⟨H5, I5, q5⟩
theorem line63 : (sizeLine : Nat) < 2 ^ 63 := by rw [sizeLine_eq]; decide
theorem op_add_str : OpR X (binaryOp .Add) (fun x y H Q => ∃ i j, x = .str i ∧ y = .str j ∧ i.length + j.length ≤ sizeLine ∧ Q (.str (i ++ j)) H) := by
  intro pins s σ H x y v u Q I rx ry h
  obtain ⟨i, j, rfl, rfl, hz, q⟩ := h
  obtain ⟨t, rfl⟩ := rx
  obtain ⟨t', rfl⟩ := ry
  exact add_str (fun t' tk => ⟨.str (i ++ j), H, I.tok _, ⟨_, rfl⟩, q⟩) hz
theorem vals1 {x : V} {us : List Value} (r : Vals [x] us) : ∃ u, us = [u] ∧ RelV x u := by
  cases r with
  | cons r1 r2 => cases r2; exact ⟨_, rfl, r1⟩
theorem vals2 {x y : V} {us : List Value} (r : Vals [x, y] us) : ∃ u w', us = [u, w'] ∧ RelV x u ∧ RelV y w' := by
  cases r with
  | cons r1 r2 =>
    cases r2 with
    | cons r3 r4 => cases r4; exact ⟨_, _, rfl, r1, r3⟩
theorem call_str_int : CallR X (.type "str") (fun xs H Q => ∃ i, xs = [.int i] ∧ i.natAbs.log2 < 1920 ∧ Q (.str (toString i)) H) := by
  intro pins s σ H xs us Q I r h
  obtain ⟨i, rfl, hz, q⟩ := h
  obtain ⟨u, rfl, t, rfl⟩ := vals1 r
  exact PySem.P.str_of_int hz ⟨.str _, H, I.tok _, ⟨_, rfl⟩, q⟩
end
end L2
namespace L2
open PySem PySem.Spec PyProof.Rows
structure ObjM (h : Heap) (x dx C : Addr) (mA : Str → Option Value) : Prop where
  obj : h.get? x = some (PySem.W.instObj C dx)
  ns : h.Ns1 dx mA
  ne : dx ≠ x
theorem lookIn_ns {h : Heap} {dx : Addr} {mA : Str → Option Value} (n : h.Ns1 dx mA) : ∃ od, h.get? dx = some od ∧ ∀ name, PySem.W.lookIn name od = some (mA name) := by
  obtain ⟨o, es, ep, ho, hd, hk, _, hm⟩ := n
  refine ⟨o, ho, fun name => ?_⟩
  have e := hm name
  unfold nsFind findBy at e
  rw [← Array.find?_toList] at e
  unfold PySem.W.lookIn
  rw [hd]
  dsimp only
  split
  · rename_i y q
    rw [q] at e
    exact congrArg some e
  · rename_i q
    rw [q] at e
    have a : es.toList.any (·.refKey) = false := by
      rw [List.any_eq_false]
      intro y hy
      obtain ⟨z, t, hkey⟩ := hk y (Array.mem_toList_iff.mp hy)
      simp [DictEntry.refKey, hkey]
    have a' : ¬ es.toList.any (·.refKey) = true := by rw [a]; exact Bool.false_ne_true
    rw [if_neg a']
    exact congrArg some e
theorem ObjM.look {h : Heap} {x dx C : Addr} {mA : Str → Option Value} (I : ObjM h x dx C mA) : ∃ od, PySem.W.InstAt h x (PySem.W.instObj C dx) C (some od) ∧ ∀ name, PySem.W.lookIn name od = some (mA name) :=
  let ⟨od, ho, hl⟩ := lookIn_ns I.ns
  ⟨od, ⟨I.obj, rfl, rfl, ho⟩, hl⟩
section
variable {prog : Program} {w : World} {A : Around} {E : Value → Shared → Prop} {s : Shared} {K : PySem.W.Frag} {x dx C f : Addr} {mA : Str → Option Value} {name : Str} {v : Value}
theorem get_map {expr : Bool} {Q : Value → Shared → Prop} (X : K.In s.heap) (I : ObjM s.heap x dx C mA) (hg : PySem.W.plainGet K C name = true) (hh : PySem.W.hasDictIn K C = true)
    (ha : PySem.W.findIn K (.ref C) name = some none) (hv : mA name = some v) (hv' : PySem.W.handedIn v = true) (h : Q v { s with toks := s.toks + 1 }) :
    wpAny (model prog w) A (getAttr (.ref x) name expr) Q E s := by
  obtain ⟨od, J, hl⟩ := I.look
  exact PySem.W.get_value X J (PySem.W.plainGet_of hg).1 (PySem.W.findObj_own hh ha rfl (by rw [hl, hv])) hv' h
theorem get_meth {pl : Sem Bool} {Q : Value × List Value → Shared → Prop} (X : K.In s.heap) (I : ObjM s.heap x dx C mA) (hg : PySem.W.plainGet K C name = true)
    (hf : PySem.W.findIn K (.ref C) name = some (some (.ref f))) (ht : PySem.W.isFn K (.ref f) = true) (hv : mA name = none) (h : Q (.ref f, [.ref x]) s) :
    wpAny (model prog w) A (getMethod (.ref x) name pl) Q E s := by
  obtain ⟨od, J, hl⟩ := I.look
  exact PySem.W.method_fn X J (PySem.W.plainGet_of hg).1 (PySem.W.plainGet_of hg).2 hf (beq_iff_eq.mp ht) (by show (PySem.W.lookIn name od).map (·.isSome) = some false; rw [hl, hv]; rfl) h
theorem set_map {ns : List Str} {Q : Unit → Shared → Prop} (X : K.In s.heap) (I : ObjM s.heap x dx C mA)
    (hs : PySem.W.findIn K (.ref C) "__setattr__" = some (some (.builtin "object.__setattr__"))) (hp : PySem.W.plainOver K C = true) (ht : PySem.W.takerIn K C name = some none) (hh : PySem.W.hasDictIn K C = true)
    (hw : PySem.Within mA ns) (hsz : ns.length ≤ sizeLine)
    (h : ∀ h', ObjM h' x dx C (fun y => if y = name then some v else mA y) → Heap.SameBut dx s.heap h' → Q () { s with heap := h', toks := s.toks + 2 }) :
    wpAny (model prog w) A (setAttr (.ref x) name v) Q E s := by
  obtain ⟨od, J, hl⟩ := I.look
  refine PySem.W.set_plain X J hs (PySem.W.osa_open (s := { s with toks := s.toks + 1 }) (r := none) X J hp ht fun b => ?_)
  obtain ⟨cd, hc, hd'⟩ := PySem.W.any_some hh
  have hx : s.heap.get? x = some ⟨.ref C, some dx, .plain, #[]⟩ := I.obj
  refine wpAny_bind (wpAny_pure (wpAny_bind (wpAny_bind (wpAny_loadPart hx (wpAny_bind (PySem.W.Looks.here (s := { s with toks := s.toks + 1 }) (PySem.W.looks_clsIn X hc) ?_))))))
  rw [hd']
  refine wpAny_pure (a := some dx) (wpAny_bind (wpAny_pure (wpAny_bind ?_)))
  refine wpAny_nsSet1 (s := { s with toks := s.toks + 1 }) I.ns fun h' hn2 hs2 => ?_
  obtain ⟨oD, esD, epD, hoD, hdD, hcD⟩ := hn2.count (PySem.Within.cons name v hw)
  refine wpAny_bind (wpAny_lookBehind hoD (by rw [hdD]; exact pastItsLine_dict (Nat.le_trans hcD (by rw [List.length_cons]; omega))) ?_)
  exact wpAny_pure (h _ ⟨(hs2.2 _ (Ne.symm I.ne)).trans I.obj, hn2, I.ne⟩ hs2)
theorem make_map {R : Result → Shared → Prop} {vs : List Value} {kw : List (Str × Value)} (X : K.In s.heap) (hm : PySem.W.makesIn K C = true)
    (hi : PySem.W.findIn K (.ref C) "__init__" = some (some (.ref f))) (hf : PySem.W.typeIn K (.ref f) = some (.type "function"))
    (h : codeAny (model prog w) (A.under (.builtin "type.__call__" ⟨.ref C :: vs, kw⟩)) (.call (.ref f) ⟨.ref (s.heap.objs.size + 1) :: vs, kw⟩) (PySem.W.InitBack (s.heap.objs.size + 1) R)
      { s with heap := (s.heap.push PySem.W.emptyDict).push (PySem.W.instObj C s.heap.objs.size) }) :
    codeAny (model prog w) A (.call (.ref C) ⟨vs, kw⟩) R s := by
  obtain ⟨hh, g, d, t, os⟩ := s
  exact PySem.W.make_core (PySem.W.makes_of X hm) (PySem.W.looks_findIn X hi) (fun self => PySem.W.bind_fn X self hf) (.inl rfl) h
end
def putF (f : Str) (v : V) : List (Str × V) → List (Str × V)
  | [] => [(f, v)]
  | (g, x) :: r => if g = f then (g, v) :: r else (g, x) :: putF f v r
theorem lookup_putF (f g : Str) (v : V) : ∀ fs : List (Str × V), (putF f v fs).lookup g = if g = f then some v else fs.lookup g
  | [] => by
    show List.lookup g [(f, v)] = _
    by_cases h : g = f
    · have hb : (g == f) = true := beq_iff_eq.mpr h
      simp only [List.lookup, hb, if_pos h]
    · have hb : (g == f) = false := beq_eq_false_iff_ne.mpr h
      simp only [List.lookup, hb, if_neg h]
  | (k, x) :: r => by
    have ih := lookup_putF f g v r
    rw [show putF f v ((k, x) :: r) = (if k = f then (k, v) :: r else (k, x) :: putF f v r) from rfl]
    by_cases hk : k = f
    · rw [if_pos hk]
      by_cases h : g = k
      · have hb : (g == k) = true := beq_iff_eq.mpr h
        simp only [List.lookup, hb, if_pos (h.trans hk)]
      · have hb : (g == k) = false := beq_eq_false_iff_ne.mpr h
        simp only [List.lookup, hb, if_neg (fun e : g = f => h (e.trans hk.symm))]
    · rw [if_neg hk]
      by_cases h : g = k
      · have hb : (g == k) = true := beq_iff_eq.mpr h
        simp only [List.lookup, hb, if_neg (fun e : g = f => hk (h.symm.trans e))]
      · have hb : (g == k) = false := beq_eq_false_iff_ne.mpr h
        simp only [List.lookup, hb]
        exact ih
theorem keys_putF (f : Str) (v : V) : ∀ fs : List (Str × V), f ∈ (putF f v fs).map (·.1) ∧ ∀ g, g ∈ fs.map (·.1) → g ∈ (putF f v fs).map (·.1)
  | [] => ⟨by simp [putF], fun g h => by simp at h⟩
  | (k, x) :: r => by
    obtain ⟨i1, i2⟩ := keys_putF f v r
    rw [show putF f v ((k, x) :: r) = (if k = f then (k, v) :: r else (k, x) :: putF f v r) from rfl]
    by_cases hk : k = f
    · rw [if_pos hk]
      subst hk
      exact ⟨by simp, fun g h => by simpa using h⟩
    · rw [if_neg hk]
      refine ⟨?_, fun g h => ?_⟩
      · rw [List.map_cons]
        exact List.mem_cons_of_mem _ i1
      · rw [List.map_cons] at h ⊢
        rcases List.mem_cons.mp h with e | e
        · exact List.mem_cons.mpr (.inl e)
        · exact List.mem_cons_of_mem _ (i2 g e)
theorem length_putF (f : Str) (v : V) : ∀ fs : List (Str × V), (putF f v fs).length ≤ fs.length + 1
  | [] => by simp [putF]
  | (k, x) :: r => by
    have ih := length_putF f v r
    rw [show putF f v ((k, x) :: r) = (if k = f then (k, v) :: r else (k, x) :: putF f v r) from rfl]
    by_cases hk : k = f
    · rw [if_pos hk, List.length_cons, List.length_cons]; omega
    · rw [if_neg hk, List.length_cons, List.length_cons]; omega
theorem RelO.some_of {v : V} {o : Option Value} (r : RelO (some v) o) : ∃ u, o = some u ∧ RelV v u := by
  cases o with
  | none => exact (show False from r).elim
  | some u => exact ⟨u, rfl, r⟩
theorem RelO.none_of {o : Option Value} (r : RelO none o) : o = none := by
  cases o with
  | none => rfl
  | some u => exact (show False from r).elim
theorem handed_of {v : V} {u : Value} (r : RelV v u) : PySem.W.handedIn u = true := by
  cases v with
  | non => cases (show u = Value.none from r); rfl
  | bl b => cases (show u = Value.bool b from r); rfl
  | int i => obtain ⟨t, e⟩ := (show ∃ t, u = Value.int i t from r); cases e; rfl
  | str x => obtain ⟨t, e⟩ := (show ∃ t, u = Value.str x t from r); cases e; rfl
  | byt b => obtain ⟨t, e⟩ := (show ∃ t, u = Value.bytes b t from r); cases e; rfl
  | flt b => obtain ⟨t, e⟩ := (show ∃ t, u = Value.float b t from r); cases e; rfl
  | ref a => cases (show u = Value.ref a from r); rfl
  | ty n => cases (show u = Value.type n from r); rfl
section
variable {P : Program} {w : World} {H H' : Hp} {h h' : Heap} {a C dx : Addr} {fs fs' : List (Str × V)}
theorem ins_get (hok : HOk P w H h) (e : H a = some (.ins C dx fs)) : ∃ mA, ObjM h a dx C mA ∧ (∀ f, RelO (fs.lookup f) (mA f)) ∧ PySem.Within mA (fs.map (·.1)) ∧ fs.length ≤ 1000 ∧ H dx = some (.own a) := by
  obtain ⟨d, z, ne, ob, mA, n, r, q⟩ := (show ObjOk P w H h a (.ins C dx fs) from hok a _ e)
  exact ⟨mA, ⟨ob, n, ne⟩, r, q, z, d⟩
end
structure Cls (K : PySem.W.Frag) (C : Addr) : Prop where
  pg : PySem.W.plainGet K C Str.empty = true
  hd : PySem.W.hasDictIn K C = true
  po : PySem.W.plainOver K C = true
  sa : PySem.W.findIn K (.ref C) "__setattr__" = some (some (.builtin "object.__setattr__"))
theorem Cls.get {K : PySem.W.Frag} {C : Addr} (c : Cls K C) (f : Str) : PySem.W.plainGet K C f = true := c.pg
def NoAttr (K : PySem.W.Frag) (C : Addr) (f : Str) : Prop := PySem.W.findIn K (.ref C) f = some none
theorem NoAttr.taker {K : PySem.W.Frag} {C : Addr} {f : Str} (n : NoAttr K C f) : PySem.W.takerIn K C f = some none := by
  unfold PySem.W.takerIn
  rw [show PySem.W.findIn K (.ref C) f = some none from n]
  rfl
structure Meth (K : PySem.W.Frag) (C : Addr) (m : Str) (f : Addr) : Prop where
  at_ : PySem.W.findIn K (.ref C) m = some (some (.ref f))
  fn : PySem.W.isFn K (.ref f) = true
  kp : PySem.W.keepIn K (.ref f) = true
section
variable {X : Cx} {pins : List (Addr × Obj)} {σ : St} {H : Hp} {s : Shared} {a C dx : Addr} {fs : List (Str × V)} {f : Str} {v : V} {A : Around} {E : Value → Shared → Prop}
theorem getattr_ok {b : Bool} {Q : Value → Shared → Prop} (I : Inv X pins σ H s) (e : H a = some (.ins C dx fs)) (c : Cls X.K C) (n : NoAttr X.K C f) (l : fs.lookup f = some v)
    (h : ∀ u s', Inv X pins σ H s' → RelV v u → Q u s') : wpAny (model X.prog X.w) A (getAttr (.ref a) f b) Q E s := by
  obtain ⟨mA, O, r, _, _, _⟩ := ins_get I.hok e
  obtain ⟨u, hu, ru⟩ := RelO.some_of (v := v) (o := mA f) (by rw [← l]; exact r f)
  exact get_map I.kIn O (c.get f) c.hd n hu (handed_of ru) (h u _ (I.tok _) ru)
theorem getmeth_ok {m : Str} {g : Addr} {pl : Sem Bool} {Q : Value × List Value → Shared → Prop} (I : Inv X pins σ H s) (e : H a = some (.ins C dx fs)) (c : Cls X.K C) (k : Meth X.K C m g) (l : fs.lookup m = none)
    (h : Q (.ref g, [.ref a]) s) : wpAny (model X.prog X.w) A (getMethod (.ref a) m pl) Q E s := by
  obtain ⟨mA, O, r, _, _, _⟩ := ins_get I.hok e
  have hn : mA m = none := RelO.none_of (by rw [← l]; exact r m)
  exact get_meth I.kIn O (c.get m) k.at_ k.fn hn h
theorem setattr_ok {y : V} {u : Value} {Q : Unit → Shared → Prop} (I : Inv X pins σ H s) (e : H a = some (.ins C dx fs)) (c : Cls X.K C) (n : NoAttr X.K C f) (hl : fs.length < 1000) (ry : RelV y u)
    (h : ∀ s', Inv X pins σ (upd H a (.ins C dx (putF f y fs))) s' → Q () s') : wpAny (model X.prog X.w) A (setAttr (.ref a) f u) Q E s := by
  obtain ⟨mA, O, r, wi, _, ho⟩ := ins_get I.hok e
  have hz : (fs.map (·.1)).length ≤ sizeLine := by rw [List.length_map, sizeLine_eq]; omega
  refine set_map I.kIn O c.sa c.po n.taker c.hd wi hz fun h' O' sb => h _ ?_
  have hd : ∃ o, h'.get? dx = some o := let ⟨o, _, _, e', _⟩ := O'.ns; ⟨o, e'⟩
  refine I.write (x := a) (e := dx) (by rw [e]; exact True.intro) (.inr ho) (fun b q hb z => (sb.2 b hb).trans z) hd ?_
  refine ⟨by rw [upd_ne O.ne]; exact ho, ?_, O.ne, O'.obj, _, O'.ns, fun g => ?_, fun g hg => ?_⟩
  · have := length_putF f y fs; omega
  · show RelO ((putF f y fs).lookup g) (if g = f then some u else mA g)
    rw [lookup_putF]
    by_cases q : g = f
    · rw [if_pos q, if_pos q]; exact ry
    · rw [if_neg q, if_neg q]; exact r g
  · by_cases q : g = f
    · rw [q]; exact (keys_putF f y fs).1
    · refine (keys_putF f y fs).2 g (wi g fun z => hg ?_)
      show (if g = f then some u else mA g) = none
      rw [if_neg q]; exact z
theorem Inv.made (I : Inv X pins σ H s) : Inv X pins σ (upd (upd H s.heap.objs.size (.own (s.heap.objs.size + 1))) (s.heap.objs.size + 1) (.ins C s.heap.objs.size []))
    { s with heap := (s.heap.push PySem.W.emptyDict).push (PySem.W.instObj C s.heap.objs.size) } := by
  have e1 : (s.heap.push PySem.W.emptyDict).get? s.heap.objs.size = some PySem.W.emptyDict := Heap.get?_push_size s.heap rfl
  have e2 : ((s.heap.push PySem.W.emptyDict).push (PySem.W.instObj C s.heap.objs.size)).get? (s.heap.objs.size + 1) = some (PySem.W.instObj C s.heap.objs.size) := by
    have := Heap.get?_push_size (s.heap.push PySem.W.emptyDict) (o := PySem.W.instObj C s.heap.objs.size) rfl
    rwa [Heap.size_push] at this
  have e3 : (s.heap.push PySem.W.emptyDict).Ns s.heap.objs.size (fun _ => none) := ⟨PySem.W.emptyDict, #[], _, e1, rfl, (fun e he => absurd he (by simp)), fun _ => rfl⟩
  have I1 := I.laid (a := s.heap.objs.size) (o := .own (s.heap.objs.size + 1)) (h' := s.heap.push PySem.W.emptyDict) (t' := s.toks) (fun b u q => Heap.get?_push_of_some _ q) (Nat.le_refl _) ⟨_, e1⟩
  refine I1.laid (a := s.heap.objs.size + 1) (o := .ins C s.heap.objs.size []) (t' := s.toks) (fun b u q => Heap.get?_push_of_some _ q) (Nat.le_of_eq (Heap.size_push _ _)) ?_
  have ne : s.heap.objs.size ≠ s.heap.objs.size + 1 := Nat.ne_of_lt (Nat.lt_succ_self _)
  refine ⟨by rw [upd_ne ne, upd_same], Nat.zero_le _, ne, e2, fun _ => none, (Heap.Ns1.of_empty e3).at fun o q => Heap.get?_push_of_some _ q, fun _ => True.intro, fun y hy => absurd rfl hy⟩
theorem attr_of {prog : Program} {w : World} {env : Env} {e : Expr} {f : Str} {pos : Pos} {s : Shared} {Q : Value → Shared → Prop} (hb : attributeBase e f env (eval e env) = eval e env)
    (h : wpAny (model prog w) A (eval e env) (fun o s₁ => wpAny (model prog w) A (getAttr o f true) Q E s₁) E s) : wpAny (model prog w) A (eval (.Attribute e f pos) env) Q E s :=
  Attribute_any_ h (by rw [arm_eval_Attribute, hb])
end
def tFld (K : PySem.W.Frag) (ta : TE) (f : Str) : TE := fun σ H Q => ta σ H fun x H1 => ∃ a C dx fs v, x = .ref a ∧ H1 a = some (.ins C dx fs) ∧ Cls K C ∧ NoAttr K C f ∧ fs.lookup f = some v ∧ Q v H1
def sFld (K : PySem.W.Frag) (ta tv : TE) (f : Str) : TS := fun D σ H => tv σ H fun y H1 => ta σ H1 fun x H2 => ∃ a C dx fs, x = .ref a ∧ H2 a = some (.ins C dx fs) ∧ Cls K C ∧ NoAttr K C f ∧ fs.length < 1000 ∧
  D.nx σ (upd H2 a (.ins C dx (putF f y fs)))
section
variable {X : Cx} {o e value : Expr} {f : Str} {pos pos' tpos : Pos} {ta tv : TE}
theorem pe_fld (he : PE X e ta) (hb : attributeBase e f X.env (eval e X.env) = eval e X.env) : PE X (.Attribute e f pos) (tFld X.K ta f) := by
  intro pins s σ H Q I h
  refine attr_of hb (thn (he pins s σ H _ I h) fun u s1 ⟨x, H1, I1, rx, a, C, dx, fs, v, ex, ea, c, n, l, q⟩ => ?_)
  subst ex
  obtain rfl : u = Value.ref a := rx
  exact getattr_ok I1 ea c n l fun u' s2 I2 ru => ⟨v, H1, I2, ru, q⟩
theorem ps_fld (ha : PE X o ta) (hv : PE X value tv) (hs : swapsWith value (some (.Attribute o f pos')) pos.line X.env = pure false) : PS X (.Assign [.Attribute o f pos'] value pos) (sFld X.K ta tv f) := by
  intro pins s σ H D I h
  refine plainObj_wpAny_Assign_Attribute (thn (hv pins s σ H _ I h) fun u s1 ⟨y, H1, I1, ry, q⟩ => thn (ha pins s1 σ H1 _ I1 q) fun ov s2 ⟨x, H2, I2, rx, a, C, dx, fs, ex, ea, c, n, l, q2⟩ => ?_) hs
  subst ex
  obtain rfl : ov = Value.ref a := rx
  exact setattr_ok I2 ea c n l ry fun s3 I3 => ⟨σ, _, I3, q2⟩
end
section
variable {X : Cx} {pins : List (Addr × Obj)} {σ : St} {H : Hp} {s : Shared} {A : Around} {E : Value → Shared → Prop} {Q : Value → Shared → Prop} {c : Value} {b : Bool}
inductive TyOf (K : PySem.W.Frag) (H : Hp) : V → Value → Prop where
  | non : TyOf K H .non (.type "NoneType")
  | bl (x : Bool) : TyOf K H (.bl x) (.type "bool")
  | int (i : Int) : TyOf K H (.int i) (.type "int")
  | str (x : Str) : TyOf K H (.str x) (.type "str")
  | flt (x : UInt64) : TyOf K H (.flt x) (.type "float")
  | lst {a : Addr} {xs : List V} (e : H a = some (.lst xs)) : TyOf K H (.ref a) (.type "list")
  | frz {a : Addr} {o : Obj} {xs : List V} (e : H a = some (.frz o (.lst xs))) : TyOf K H (.ref a) (.type "list")
  | tup {a : Addr} {xs : List V} (e : H a = some (.tup xs)) : TyOf K H (.ref a) (.type "tuple")
  | dK {a : Addr} {kvs : List (Key × V)} (e : H a = some (.dK kvs)) : TyOf K H (.ref a) (.type "dict")
  | dT {a : Addr} {kvs : List (List Key × V)} (e : H a = some (.dT kvs)) : TyOf K H (.ref a) (.type "dict")
  | ins {a C dx : Addr} {fs : List (Str × V)} (e : H a = some (.ins C dx fs)) (cl : Cls K C) (ha : PySem.W.findIn K (.ref C) "__class__" = some (some (.builtin "object.__class__")))
      (hn : PySem.W.specialIn K (.builtin "object.__class__") "__get__" = some (some (.builtin "getset_descriptor.__get__"))) (htk : PySem.W.takesIn K (.builtin "object.__class__") = some true)
      (hm : PySem.W.mroIn K C (.type "object") = some true) : TyOf K H (.ref a) (.ref C)
theorem isinst_ok {x : V} {u t : Value} (I : Inv X pins σ H s) (rx : RelV x u) (ty : TyOf X.K H x t) (e : PySem.W.kitOne X.K t c = some b) (h : ∀ tk, Q (.bool b) { s with toks := tk }) :
    wpAny (model X.prog X.w) A (call (.builtin "isinstance") [u, c]) Q E s := by
  cases ty with
  | non => cases (show u = Value.none from rx); exact PySem.W.kia_one PySem.W.kitx_none I.kIn True.intro e (fun z => nomatch z) h
  | bl y => cases (show u = Value.bool y from rx); exact PySem.W.kia_one PySem.W.kitx_bool I.kIn True.intro e (fun z => nomatch z) h
  | int i => obtain ⟨t, q⟩ := (show ∃ t, u = Value.int i t from rx); cases q; exact PySem.W.kia_one PySem.W.kitx_int I.kIn True.intro e (fun z => nomatch z) h
  | str y => obtain ⟨t, q⟩ := (show ∃ t, u = Value.str y t from rx); cases q; exact PySem.W.kia_one PySem.W.kitx_str I.kIn True.intro e (fun z => nomatch z) h
  | flt y => obtain ⟨t, q⟩ := (show ∃ t, u = Value.float y t from rx); cases q; exact PySem.W.kia_one PySem.W.kitx_float I.kIn True.intro e (fun z => nomatch z) h
  | @lst a xs ea =>
    cases (show u = Value.ref a from rx)
    obtain ⟨_, _, n, _, h1⟩ := (show ObjOk X.prog X.w H s.heap a (.lst xs) from I.hok a _ ea)
    exact PySem.W.kia_one PySem.W.kitx_list I.kIn ⟨_, h1, rfl⟩ e (fun z => nomatch z) h
  | @frz a ob xs ea =>
    cases (show u = Value.ref a from rx)
    obtain ⟨_, _, _, n, _, h1⟩ := (show ObjOk X.prog X.w H s.heap a (.frz ob (.lst xs)) from I.hok a _ ea)
    exact PySem.W.kia_one PySem.W.kitx_list I.kIn ⟨_, h1, rfl⟩ e (fun z => nomatch z) h
  | @tup a xs ea =>
    cases (show u = Value.ref a from rx)
    obtain ⟨_, _, _, p⟩ := (show ObjOk X.prog X.w H s.heap a (.tup xs) from I.hok a _ ea)
    obtain ⟨o, h1, h2, _⟩ := p
    exact PySem.W.kia_one PySem.W.kitx_tuple I.kIn ⟨o, h1, h2⟩ e (fun z => nomatch z) h
  | @dK a kvs ea =>
    cases (show u = Value.ref a from rx)
    obtain ⟨_, _, vs, _, p⟩ := (show ObjOk X.prog X.w H s.heap a (.dK kvs) from I.hok a _ ea)
    obtain ⟨o, es, ep, h1, h2, _⟩ := p
    exact PySem.W.kia_one PySem.W.kitx_dict I.kIn ⟨o, h1, h2.1⟩ e (fun z => nomatch z) h
  | @dT a kvs ea =>
    cases (show u = Value.ref a from rx)
    obtain ⟨_, _, xs, _, o, es, ep, h1, h2, _⟩ := (show ObjOk X.prog X.w H s.heap a (.dT kvs) from I.hok a _ ea)
    exact PySem.W.kia_one PySem.W.kitx_dict I.kIn ⟨o, h1, h2.1⟩ e (fun z => nomatch z) h
  | @ins a C dx fs ea cl ha hn htk hm =>
    cases (show u = Value.ref a from rx)
    obtain ⟨mA, O, _⟩ := ins_get I.hok ea
    obtain ⟨od, J, _⟩ := O.look
    exact PySem.W.kia_one (PySem.W.kitx_own (cl.get _) cl.hd ha hn htk hm) I.kIn J e (fun z => nomatch z) h
end
end L2
namespace L2
open PySem PySem.Spec PyProof.Rows
structure Room (k : Nat) (A : Around) : Prop where
  hd : A.handled = none
  dp : A.depth + 3 * k + 5 < recursionLimit
  un : A.units + 16 * k + 200 < cLine
theorem Room.mono {j k : Nat} {A : Around} (r : Room k A) (h : j ≤ k) : Room j A := ⟨r.hd, by have := r.dp; omega, by have := r.un; omega⟩
theorem Room.deeper {k : Nat} {A : Around} (r : Room (k + 1) A) (env : Env) : Room k (A.deeper env) :=
  ⟨r.hd, by have := r.dp; show A.depth + 1 + 3 * k + 5 < _; omega, by have := r.un; show A.units + 3 + 16 * k + 200 < _; omega⟩
theorem Room.in1 {k : Nat} {A : Around} (r : Room (k + 1) A) : Room k A.in1 :=
  ⟨r.hd, by have := r.dp; show A.depth + 3 * k + 5 < _; omega, by have := r.un; show A.units + 1 + 16 * k + 200 < _; omega⟩
theorem make_depth {A : Around} {C : Addr} {us : List Value} {kw : List (Str × Value)} : (A.under (.builtin "type.__call__" ⟨.ref C :: us, kw⟩)).depth = A.depth + 1 := by
  first | rfl | simp [Around.under, Code.weight, Code.isCreation, Code.isGuard, Code.isCaller, Code.frames, Code.isFrame, guardIds]
theorem make_units {A : Around} {C : Addr} {us : List Value} {kw : List (Str × Value)} : (A.under (.builtin "type.__call__" ⟨.ref C :: us, kw⟩)).units = A.units + 1 := by
  first | rfl | simp [Around.under, Code.cUnits, Code.frames, Code.isFrame]
theorem Room.make {k : Nat} {A : Around} (r : Room (k + 1) A) (C : Addr) (us : List Value) (kw : List (Str × Value)) : Room k (A.under (.builtin "type.__call__" ⟨.ref C :: us, kw⟩)) :=
  ⟨r.hd, by have := r.dp; rw [make_depth]; omega, by have := r.un; rw [make_units]; omega⟩
theorem Room.depth {k : Nat} {A : Around} (r : Room k A) : A.depth < recursionLimit := by have := r.dp; omega
theorem Room.units {k : Nat} {A : Around} (r : Room k A) : A.units + 64 < cLine := by have := r.un; omega
def tNil : TA := fun _ H Q => Q [] H
def tCons (ta : TE) (tr : TA) : TA := fun σ H Q => ta σ H fun x H1 => tr σ H1 fun xs H2 => Q (x :: xs) H2
section
variable {X : Cx} {e : Expr} {es : List Expr} {te : TE} {t : TA} {pos : Pos}
theorem pa_nil : PA X [] tNil := fun _ _ _ _ H Q I h => Calls.spliced_nil ⟨[], H, I, .nil, h⟩
theorem pa_cons (ha : PE X e te) (hr : PA X es t) (hs : starEach (e :: es) X.env = (false, eval e X.env) :: starEach es X.env := by rfl) : PA X (e :: es) (tCons te t) := by
  intro pos pins s σ H Q I h
  rw [hs]
  show wpAny _ _ (spliced ((false, eval e X.env) :: backTo pos (starEach es X.env))) _ _ s
  refine Calls.spliced_cons (thn (ha pins s σ H _ I h) fun u s1 ⟨x, H1, I1, r1, q1⟩ => ?_)
  exact thn (hr pos pins s1 σ H1 _ I1 q1) fun us s2 ⟨xs, H2, I2, r2, q2⟩ => ⟨x :: xs, H2, I2, .cons r1 r2, q2⟩
def tLst (t : TA) : TE := fun σ H Q => t σ H fun xs H1 => xs.length ≤ sizeLine ∧ ∀ p, H1 p = none → Q (.ref p) (upd H1 p (.lst xs))
theorem pe_lst (h : PA X es t) : PE X (.List es pos) (tLst t) := by
  intro pins s σ H Q I hq
  refine wpAny_List_spliced (thn (h pos pins s σ H _ I hq) fun us s1 ⟨xs, H1, I1, r, z, q⟩ => ⟨by rw [← r.length]; exact z, ?_⟩)
  have hf : H1 s1.heap.objs.size = none := I1.hok.fresh (Nat.le_refl _)
  refine ⟨.ref s1.heap.objs.size, upd H1 s1.heap.objs.size (.lst xs), I1.laid (t' := s1.toks) (fun b u e => Heap.get?_push_of_some _ e) (Nat.le_refl _) ?_, rfl, q _ hf⟩
  exact ⟨z, us, 0, r, Heap.get?_push_size _ rfl⟩
end
abbrev Sp := List V → Hp → VK → XK → Prop
abbrev CXT := List Env → Hp → Shared → XK → Value → Shared → Prop
structure Env0 (P : Program) (w : World) (K : PySem.W.Frag) (mg : Str → Option Value) (base : Heap) (A : Around) (outer : List Env) (s : Shared) (H : Hp) : Prop where
  frames : A.frames = some outer
  mod : Mod K mg base
  bs : ∀ b o, base.get? b = some o → s.heap.get? b = some o ∧ H b = none
  bsz : base.objs.size ≤ s.heap.objs.size
  funs : s.heap.FunFrames base outer
  frf : ∀ b ∈ frs outer, H b = none
  hok : HOk P w H s.heap
  bare : AllBare s.gens
def CE (outer : List Env) (P : Program) (w : World) (H : Hp) (s : Shared) (Q : VK) (u : Value) (s' : Shared) : Prop :=
  ∃ v H', s'.os = s.os ∧ AllBare s'.gens ∧ Un (frs outer) [] H H' s.heap s'.heap ∧ HOk P w H' s'.heap ∧ RelV v u ∧ Q v H'
def CR (CX : CXT) (outer : List Env) (P : Program) (w : World) (H : Hp) (s : Shared) (Q : VK) (E : XK) (r : Result) (s' : Shared) : Prop :=
  match r with
  | .ok (.ret u) => CE outer P w H s Q u s'
  | .ok _ => False
  | .error e => CX outer H s E e s'
structure FnOk (P : Program) (w : World) (K : PySem.W.Frag) (mg : Str → Option Value) (base : Heap) (CX : CXT) (k : Nat) (f : Addr) (fd : FuncData) (ps : List Str) (sp : Sp) : Prop where
  len : ∀ vs H Q E, sp vs H Q E → vs.length = ps.length
  run : ∀ (A : Around) (outer : List Env) (s : Shared) (H : Hp) (args : Args) (us : List Value) (vs : List V) (Q : VK) (E : XK), Room k A → Env0 P w K mg base A outer s H → BindsTo s fd args (ps.zip us) → Vals vs us → sp vs H Q E →
    codeAny (model P w) A (.call (.ref f) args) (CR CX outer P w H s Q E) s
theorem FnOk.mono {P : Program} {w : World} {K : PySem.W.Frag} {mg : Str → Option Value} {base : Heap} {CX : CXT} {j k : Nat} {f : Addr} {fd : FuncData} {ps : List Str} {sp : Sp} (F : FnOk P w K mg base CX j f fd ps sp) (h : j ≤ k) :
    FnOk P w K mg base CX k f fd ps sp := ⟨F.len, fun A outer s H args us vs Q E hr => F.run A outer s H args us vs Q E (hr.mono h)⟩
theorem FnOk.imp {P : Program} {w : World} {K : PySem.W.Frag} {mg : Str → Option Value} {base : Heap} {CX : CXT} {k : Nat} {f : Addr} {fd : FuncData} {ps : List Str} {sp sp' : Sp} (F : FnOk P w K mg base CX k f fd ps sp)
    (h : ∀ vs H Q E, sp' vs H Q E → sp vs H Q E) : FnOk P w K mg base CX k f fd ps sp' :=
  ⟨fun vs H Q E q => F.len vs H Q E (h _ _ _ _ q), fun A outer s H args us vs Q E hr he hb hv hs => F.run A outer s H args us vs Q E hr he hb hv (h _ _ _ _ hs)⟩
theorem Env0.make {P : Program} {w : World} {K : PySem.W.Frag} {mg : Str → Option Value} {base : Heap} {A : Around} {outer : List Env} {s : Shared} {H : Hp} (e : Env0 P w K mg base A outer s H) (C : Addr) (us : List Value) (kw : List (Str × Value)) :
    Env0 P w K mg base (A.under (.builtin "type.__call__" ⟨.ref C :: us, kw⟩)) outer s H := ⟨by first | exact e.frames | (simpa [Around.under, Code.envs, Code.isFrame, pushEnvs] using e.frames), e.mod, e.bs, e.bsz, e.funs, e.frf, e.hok, e.bare⟩
theorem Env0.in1 {P : Program} {w : World} {K : PySem.W.Frag} {mg : Str → Option Value} {base : Heap} {A : Around} {outer : List Env} {s : Shared} {H : Hp} (e : Env0 P w K mg base A outer s H) :
    Env0 P w K mg base A.in1 outer s H := ⟨e.frames, e.mod, e.bs, e.bsz, e.funs, e.frf, e.hok, e.bare⟩
section
variable {X : Cx} {pins : List (Addr × Obj)} {σ : St} {H : Hp} {s s' : Shared}
theorem Inv.env0 (I : Inv X pins σ H s) : Env0 X.prog X.w X.K X.mg X.base X.A X.stack s H :=
  ⟨I.ok.frames, I.ok.mod, I.bs, Nat.le_trans I.ok.bsz I.sz, I.stack, I.stkFree, I.hok, I.bare⟩
theorem Inv.after {Q : VK} {u : Value} (I : Inv X pins σ H s) (h : CE X.stack X.prog X.w H s Q u s') : EP X pins σ Q u s' := by
  obtain ⟨v, H', os, bare, un, hok, r, q⟩ := h
  obtain ⟨hh, g, d, t, os'⟩ := s'
  obtain rfl : os' = s.os := os
  exact ⟨v, H', I.call (h' := hh) (g' := g) (d' := d) (t' := t) (ch := []) un hok bare (fun b z => absurd z (by simp)), r, q⟩
end
def tCall (sp : Sp) (dvs : List V) (E : XK) (t : TA) : TE := fun σ H Q => t σ H fun vs H1 => sp (vs ++ dvs) H1 Q E
def tMeth (C : Addr) (m : Str) (sp : Sp) (dvs : List V) (E : XK) (ta : TE) (t : TA) : TE := fun σ H Q => ta σ H fun x H1 => ∃ a dx fs, x = .ref a ∧ H1 a = some (.ins C dx fs) ∧ fs.lookup m = none ∧
  t σ H1 fun vs H2 => sp (x :: (vs ++ dvs)) H2 Q E
def tMake (C : Addr) (sp : Sp) (dvs : List V) (E : XK) (t : TA) : TE := fun σ H Q => t σ H fun vs H1 => ∀ x dx, H1 x = none → H1 dx = none → dx ≠ x →
  sp (.ref x :: (vs ++ dvs)) (upd (upd H1 dx (.own x)) x (.ins C dx [])) (fun v H2 => v = .non ∧ Q (.ref x) H2) E
def Binds (K : PySem.W.Frag) (fd : FuncData) (ps : List Str) (ds : List Value) : Prop :=
  ∀ (s : Shared) (us : List Value), K.In s.heap → (us ++ ds).length = ps.length → BindsTo s fd ⟨us, []⟩ (ps.zip (us ++ ds))
theorem Binds.all {K : PySem.W.Frag} {fd : FuncData} {ps : List Str} (h : ∀ us : List Value, us.length = ps.length → bindArgs fd ⟨us, []⟩ = pure (ps.zip us)) : Binds K fd ps [] := fun s us _ hl => by
  rw [List.append_nil] at hl ⊢
  exact .of_eq (h us hl)
def Passes (CX : CXT) (X : Cx) (E : XK) : Prop := ∀ (pins : List (Addr × Obj)) (σ : St) (H : Hp) (s : Shared) (e : Value) (s' : Shared), Inv X pins σ H s → CX X.stack H s E e s' → X.xe e s'
section
variable {X : Cx} {CX : CXT} {k : Nat} {f C : Addr} {fd : FuncData} {ps : List Str} {sp : Sp} {dvs : List V} {ds : List Value} {E : XK} {x m : Str} {p pos apos : Pos} {e o : Expr} {es : List Expr} {ta : TE} {t : TA}
theorem run_fn {pins : List (Addr × Obj)} {σ : St} {H : Hp} {s : Shared} {Q : VK} {us : List Value} {vs : List V} (F : FnOk X.prog X.w X.K X.mg X.base CX k f fd ps sp) (hr : Room k X.A) (hb : Binds X.K fd ps ds) (hd : Vals dvs ds) (hx : Passes CX X E)
    (I : Inv X pins σ H s) (r : Vals vs us) (h : sp (vs ++ dvs) H Q E) : wpAny (model X.prog X.w) X.A (call (.ref f) us) (EP X pins σ Q) X.xe s := by
  have r2 : Vals (vs ++ dvs) (us ++ ds) := r.append hd
  have hl : (us ++ ds).length = ps.length := by rw [← r2.length]; exact F.len _ _ _ _ h
  refine wpAny_call (codeAny_mono (F.run X.A X.stack s H ⟨us, []⟩ (us ++ ds) (vs ++ dvs) Q E hr I.env0 (hb s us I.kIn hl) r2 h) fun r s' hq => ?_)
  cases r with
  | error e => exact hx pins σ H s e s' I hq
  | ok fl =>
    cases fl with
    | ret u => exact I.after hq
    | next => exact False.elim hq
    | brk => exact False.elim hq
    | cont => exact False.elim hq
theorem pe_call (F : FnOk X.prog X.w X.K X.mg X.base CX k f fd ps sp) (hr : Room k X.A) (hg : Gl X x) (hm : X.mg x = some (.ref f)) (hk : PySem.W.keepIn X.K (.ref f) = true) (hb : Binds X.K fd ps ds) (hd : Vals dvs ds) (hx : Passes CX X E)
    (ha : PA X (e :: es) t) (hdb : (x == ("__debug__" : Str)) = false := by decide) (he : starEach (e :: es) X.env = (false, eval e X.env) :: starEach es X.env := by rfl) (hpl : (backTo pos (starEach es X.env)).any (·.1) = false := by rfl) :
    PE X (.Call (.Name x p) (e :: es) [] pos) (tCall sp dvs E t) := by
  intro pins s σ H Q I h
  refine wpAny_Call_Name_kw (ld_glob I hg hm ?_ hdb)
  refine PySem.W.callWith_K (h₀ := X.base) I.ok.mod.kin hk (thn (ha pos pins s σ H _ I h) fun us s1 ⟨vs, H1, I1, r, q⟩ => ⟨I1.kIn, ?_⟩) he hpl
  exact run_fn F hr hb hd hx I1 r q
theorem pe_meth0 {pl : Sem Bool} (he : PE X o ta) (c : Cls X.K C) (hm : Meth X.K C m f) (F : FnOk X.prog X.w X.K X.mg X.base CX k f fd ps sp) (hr : Room k X.A) (hb : Binds X.K fd ps ds) (hd : Vals dvs ds) (hx : Passes CX X E)
    (ht : eval (.Call (.Attribute o m apos) [] [] pos) X.env = (do
      let ov ← eval o X.env
      standAt apos.atName
      let (f, first) ← holding [ov] (getMethod ov m pl)
      callWith pos f first (backTo pos (starEach [] X.env)) (backToKw pos (keywordEach [] X.env))) := by rfl) :
    PE X (.Call (.Attribute o m apos) [] [] pos) (tMeth C m sp dvs E ta tNil) := by
  intro pins s σ H Q I h
  refine PySem.W.methodCall_KW (pl := pl) (thn (he pins s σ H _ I h) fun u s1 ⟨x, H1, I1, rx, a, dx, fs, ex, ea, l, q⟩ => ?_) ht
  subst ex
  obtain rfl : u = Value.ref a := rx
  refine getmeth_ok I1 ea c hm l ?_
  exact PySem.W.callWith_K0 (first := [.ref a]) I1.kIn hm.kp (run_fn (us := [.ref a]) (vs := [.ref a]) F hr hb hd hx I1 (.cons rfl .nil) q)
structure Mk (K : PySem.W.Frag) (C f : Addr) : Prop where
  makes : PySem.W.makesIn K C = true
  init : PySem.W.findIn K (.ref C) "__init__" = some (some (.ref f))
  fn : PySem.W.isFn K (.ref f) = true
  kp : PySem.W.keepIn K (.ref C) = true
theorem run_make {pins : List (Addr × Obj)} {σ : St} {H : Hp} {s : Shared} {Q : VK} {us : List Value} {vs : List V} (M : Mk X.K C f) (F : FnOk X.prog X.w X.K X.mg X.base CX k f fd ps sp) (hr : Room (k + 1) X.A) (hb : Binds X.K fd ps ds) (hd : Vals dvs ds)
    (hx : Passes CX X E) (I : Inv X pins σ H s) (r : Vals vs us)
    (h : ∀ x dx, H x = none → H dx = none → dx ≠ x → sp (.ref x :: (vs ++ dvs)) (upd (upd H dx (.own x)) x (.ins C dx [])) (fun v H2 => v = .non ∧ Q (.ref x) H2) E) :
    wpAny (model X.prog X.w) X.A (call (.ref C) us) (EP X pins σ Q) X.xe s := by
  have hq := h (s.heap.objs.size + 1) s.heap.objs.size (I.hok.fresh (Nat.le_succ _)) (I.hok.fresh (Nat.le_refl _)) (Nat.ne_of_lt (Nat.lt_succ_self _))
  have I2 := Inv.made (C := C) I
  have r2 : Vals (V.ref (s.heap.objs.size + 1) :: (vs ++ dvs)) (Value.ref (s.heap.objs.size + 1) :: (us ++ ds)) := .cons rfl (r.append hd)
  have hl : (Value.ref (s.heap.objs.size + 1) :: us ++ ds).length = ps.length := by
    have e := r2.length
    rw [F.len _ _ _ _ hq] at e
    exact e.symm
  refine wpAny_call (make_map (f := f) I.kIn M.makes M.init (beq_iff_eq.mp M.fn) (codeAny_mono (F.run _ X.stack _ _ ⟨Value.ref (s.heap.objs.size + 1) :: us, []⟩ (Value.ref (s.heap.objs.size + 1) :: (us ++ ds)) _ _ E (hr.make C us [])
    (I2.env0.make C us []) (hb _ (Value.ref (s.heap.objs.size + 1) :: us) I2.kIn hl) r2 hq) fun r s' hq' => ?_))
  cases r with
  | error e => exact hx pins σ _ _ e s' I2 hq'
  | ok fl =>
    cases fl with
    | ret u =>
      obtain ⟨v, H', I3, rv, ev, q3⟩ := I2.after hq'
      subst ev
      exact ⟨rv, ⟨V.ref (s.heap.objs.size + 1), H', I3, rfl, q3⟩⟩
    | next => exact False.elim hq'
    | brk => exact False.elim hq'
    | cont => exact False.elim hq'
theorem pe_make (M : Mk X.K C f) (F : FnOk X.prog X.w X.K X.mg X.base CX k f fd ps sp) (hr : Room (k + 1) X.A) (hg : Gl X x) (hm : X.mg x = some (.ref C)) (hb : Binds X.K fd ps ds) (hd : Vals dvs ds) (hx : Passes CX X E)
    (ha : PA X (e :: es) t) (hdb : (x == ("__debug__" : Str)) = false := by decide) (he : starEach (e :: es) X.env = (false, eval e X.env) :: starEach es X.env := by rfl) (hpl : (backTo pos (starEach es X.env)).any (·.1) = false := by rfl) :
    PE X (.Call (.Name x p) (e :: es) [] pos) (tMake C sp dvs E t) := by
  intro pins s σ H Q I h
  refine wpAny_Call_Name_kw (ld_glob I hg hm ?_ hdb)
  refine PySem.W.callWith_K (h₀ := X.base) I.ok.mod.kin M.kp (thn (ha pos pins s σ H _ I h) fun us s1 ⟨vs, H1, I1, r, q⟩ => ⟨I1.kIn, ?_⟩) he hpl
  exact run_make M F hr hb hd hx I1 r q
theorem pe_make0 (M : Mk X.K C f) (F : FnOk X.prog X.w X.K X.mg X.base CX k f fd ps sp) (hr : Room (k + 1) X.A) (hg : Gl X x) (hm : X.mg x = some (.ref C)) (hb : Binds X.K fd ps ds) (hd : Vals dvs ds) (hx : Passes CX X E)
    (hdb : (x == ("__debug__" : Str)) = false := by decide) : PE X (.Call (.Name x p) [] [] pos) (tMake C sp dvs E tNil) := by
  intro pins s σ H Q I h
  refine wpAny_Call_Name_kw (ld_glob I hg hm ?_ hdb)
  exact PySem.W.callWith_K0 I.kIn M.kp (run_make (us := []) M F hr hb hd hx I .nil h)
end
section
variable {X : Cx} {CX : CXT} {k : Nat} {f C : Addr} {fd : FuncData} {ps ks : List Str} {sp : Sp} {E : XK} {x m : Str} {p pos apos kpos : Pos} {e o : Expr} {es : List Expr} {kws : List Keyword} {te ta : TE} {t tk : TA} {nm : Option Str}
variable {g : List Value → List Value → List Value} {gV : List V → List V → List V}
end
structure FnScope (N P : List Str) (sc : Scope) : Prop where
  kind : sc.kind = .function
  co : sc.isCoroutine = false
  gen : sc.isGenerator = false
  nd : N.Nodup
  pre : N.take P.length = P
  par : ∀ x ∈ P, sc.names.lookup x = some .local ∨ sc.names.lookup x = some .cell
  nofree : ∀ y ∈ sc.names, y.2 ≠ .free
theorem bindL_out {kindOf : Str → Option NameKind} {x : Str} : ∀ {binds : List (Str × Value)} {m : Str → Option Value}, (∀ v, (x, v) ∉ binds) → bindL kindOf binds m x = m x
  | [], _, _ => rfl
  | (n, v) :: r, m, h => by
    unfold bindL
    rw [bindL_out fun w hw => h w (List.mem_cons_of_mem _ hw)]
    split
    · have : x ≠ n := by rintro rfl; exact h v List.mem_cons_self
      simp [this]
    · rfl
theorem bindC_out {kindOf : Str → Option NameKind} {x : Str} : ∀ {binds : List (Str × Value)} {m : Str → Option Value}, (∀ v, (x, v) ∉ binds) → bindC kindOf binds m x = m x
  | [], _, _ => rfl
  | (n, v) :: r, m, h => by
    unfold bindC
    rw [bindC_out fun w hw => h w (List.mem_cons_of_mem _ hw)]
    split
    · rfl
    · have : x ≠ n := by rintro rfl; exact h v List.mem_cons_self
      simp [this]
theorem bindL_get {kindOf : Str → Option NameKind} {x : Str} {v : Value} : ∀ {P : List Str} {vs : List Value} {i : Nat} {m : Str → Option Value}, P.Nodup → P[i]? = some x → vs[i]? = some v → kindOf x = some .local →
    bindL kindOf (P.zip vs) m x = some v
  | [], _, _, _, _, h, _, _ => by simp at h
  | _ :: _, [], _, _, _, _, h, _ => by simp at h
  | p :: P, w :: vs, 0, m, nd, h1, h2, hk => by
    simp at h1 h2; subst h1; subst h2
    show bindL kindOf ((p, w) :: P.zip vs) m p = _
    unfold bindL
    rw [bindL_out fun v hv => (List.nodup_cons.mp nd).1 (List.of_mem_zip hv).1, if_pos hk]
    simp
  | p :: P, w :: vs, i + 1, m, nd, h1, h2, hk => by
    show bindL kindOf ((p, w) :: P.zip vs) m x = _
    unfold bindL
    exact bindL_get (i := i) (List.nodup_cons.mp nd).2 (by simpa using h1) (by simpa using h2) hk
theorem bindC_get {kindOf : Str → Option NameKind} {x : Str} {v : Value} : ∀ {P : List Str} {vs : List Value} {i : Nat} {m : Str → Option Value}, P.Nodup → P[i]? = some x → vs[i]? = some v → kindOf x ≠ some .local →
    bindC kindOf (P.zip vs) m x = some v
  | [], _, _, _, _, h, _, _ => by simp at h
  | _ :: _, [], _, _, _, _, h, _ => by simp at h
  | p :: P, w :: vs, 0, m, nd, h1, h2, hk => by
    simp at h1 h2; subst h1; subst h2
    show bindC kindOf ((p, w) :: P.zip vs) m p = _
    unfold bindC
    rw [bindC_out fun v hv => (List.nodup_cons.mp nd).1 (List.of_mem_zip hv).1, if_neg hk]
    simp
  | p :: P, w :: vs, i + 1, m, nd, h1, h2, hk => by
    show bindC kindOf ((p, w) :: P.zip vs) m x = _
    unfold bindC
    exact bindC_get (i := i) (List.nodup_cons.mp nd).2 (by simpa using h1) (by simpa using h2) hk
def start (N : List Str) (vs : List V) : St := vs.map some ++ List.replicate (N.length - vs.length) none
def cxOf (CX : CXT) (P : Program) (w : World) (K : PySem.W.Frag) (mg : Str → Option Value) (base : Heap) (N : List Str) (qual : Str) (scope : Scope) (f : Addr) (cd : Value) (A : Around) (outer : List Env) (s : Shared) (H : Hp) (E : XK) : Cx where
  prog := P
  w := w
  K := K
  mg := mg
  base := base
  A := A.deeper (envOfC qual scope s.heap.objs.size f cd)
  N := N
  s₀ := s
  H₀ := H
  env := envOfC qual scope s.heap.objs.size f cd
  outer := outer
  stack := envOfC qual scope s.heap.objs.size f cd :: outer
  ex := []
  calm := true
  fn := fun _ => true
  pn := []
  xe := fun e s' => wpAny (model P w) (A.deeper (envOfC qual scope s.heap.objs.size f cd)) (leaving (envOfC qual scope s.heap.objs.size f cd) e) (fun _ s'' => CX outer H s E e s'') (fun e' s'' => CX outer H s E e' s'') s'
theorem cell_has {sc : Scope} {n : Nat} {x : Str} (h : sc.names.lookup x = some .cell) : ∃ c, (cellsFrom n sc.names []).lookup x = some c := by
  have q := PySem.W.cellsFrom_some sc.names n [] (.inl h)
  exact Option.isSome_iff_exists.mp q
theorem inv_start {CX : CXT} {P : Program} {w : World} {K : PySem.W.Frag} {mg : Str → Option Value} {base : Heap} {N ps : List Str} {qual : Str} {scope : Scope} {f : Addr} {cd : Value} {A : Around} {outer : List Env} {s s1 : Shared} {H : Hp} {E : XK} {us : List Value} {vs : List V}
    (S : FnScope N ps scope) (hd : A.handled = none) (e0 : Env0 P w K mg base A outer s H) (hl : vs.length = ps.length) (r : Vals vs us)
    (x : InCallC s s.heap.objs.size (bindL (envOfC qual scope s.heap.objs.size f cd).kindOf (ps.zip us) fun _ => none) (cellsFrom (s.heap.objs.size + 1) scope.names []) (bindC (envOfC qual scope s.heap.objs.size f cd).kindOf (ps.zip us) fun _ => none) s1) :
    Inv (cxOf CX P w K mg base N qual scope f cd A outer s H E) [] (start N vs) H s1 := by
  have hpl : ps.length ≤ N.length := by have := congrArg List.length S.pre; rw [List.length_take] at this; omega
  obtain ⟨h1, tk, rfl, hk⟩ := x.done
  have noA : ∀ b : Addr, b ∉ (cxOf CX P w K mg base N qual scope f cd A outer s H E).ex := fun b z => absurd (show b ∈ ([] : List Addr) from z) (by simp)
  refine ⟨⟨e0.mod, S.kind, rfl, rfl, Nat.le_refl _, fun y z c h1 h2 => ?_, fun y hy => ?_, fun y c _ h => ?_, fun _ => hd, Around.frames_deeper e0.frames, .inr ⟨rfl, rfl⟩, fun b z => absurd z (noA b), e0.bs, e0.bsz, fun b _ _ => noA b, fun b z => absurd z (noA b), e0.funs, e0.frf⟩,
    rfl, e0.bare, Un.kept hk, ⟨_, x.toInCall.ns, fun i y v h1 h2 h3 => ?_⟩, fun y c h => ⟨_, x.cell y c h⟩, e0.hok.fresh (Nat.le_refl _), fun y c h => ?_, fun p hp => absurd (show p ∈ ([] : List (Addr × Obj)) from hp) (by simp), e0.hok.kept hk, ?_⟩
  · exact name_of_addr x.apart (PySem.mem_of_lookup h1) (PySem.mem_of_lookup h2)
  · have hy : scope.names.lookup y = some .cell ∨ scope.names.lookup y = some .free := hy
    rcases hy with hy | hy
    · exact cell_has hy
    · exact absurd rfl (S.nofree _ (PySem.mem_of_lookup hy))
  · exact Nat.le_of_lt (x.above y c (PySem.mem_of_lookup h))
  · have hi : i < vs.length := by
      unfold start at h2
      by_cases hi : i < vs.length
      · exact hi
      · rw [List.getElem?_append_right (by simpa using hi)] at h2
        rw [List.getElem?_replicate] at h2
        split at h2 <;> cases h2
    have ha : vs[i]? = some v := by
      unfold start at h2
      rw [List.getElem?_append_left (by simpa using hi), List.getElem?_map] at h2
      cases e : vs[i]? with
      | none => rw [e] at h2; cases h2
      | some a => rw [e] at h2; cases h2; rfl
    obtain ⟨u, hu, rv⟩ := r.get ha
    have hp : ps[i]? = some y := by
      rw [← S.pre, List.getElem?_take_of_lt (by omega)]; exact h1
    have ndP : ps.Nodup := by rw [← S.pre]; exact S.nd.sublist (List.take_sublist _ _)
    refine ⟨u, rv, ?_⟩
    rcases S.par y (List.mem_of_getElem? hp) with k | k
    · exact .inl ⟨k, bindL_get ndP hp hu k⟩
    · obtain ⟨c, e⟩ := cell_has (n := s.heap.objs.size + 1) k
      refine .inr ⟨.inl k, c, e, ?_⟩
      have q := x.cell y c e
      rw [bindC_get ndP hp hu (by show scope.names.lookup y ≠ _; rw [k]; decide)] at q
      exact q
  · exact e0.hok.fresh (Nat.le_of_lt (x.above y c (PySem.mem_of_lookup h)))
  · unfold start
    show _ = N.length
    rw [List.length_append, List.length_map, List.length_replicate]
    omega
theorem fn_of {CX : CXT} {P : Program} {w : World} {K : PySem.W.Frag} {mg : Str → Option Value} {base : Heap} {k : Nat} {f : Addr} {name qual : Str} {params : Arguments} {body : List Stmt} {scope : Scope} {dV kV doc pm cdv ct oc : Value} {an od : Option Addr}
    {osl : Array (Option Value)} {N ps : List Str} {sp : Sp} (lk : K.lookup f = some ⟨oc, od, .func (PySem.W.fnOf name qual params body scope dV kV doc pm an cdv ct), osl⟩) (hcd : PySem.W.codeIn K cdv qual = true) (S : FnScope N ps scope)
    (len : ∀ vs H Q E, sp vs H Q E → vs.length = ps.length)
    (hbody : ∀ (A : Around) (outer : List Env) (s : Shared) (H : Hp) (vs : List V) (Q : VK) (E : XK), Room k (A.deeper (envOfC qual scope s.heap.objs.size f cdv)) → sp vs H Q E →
      ∃ t, PSs (cxOf CX P w K mg base N qual scope f cdv A outer s H E) body t ∧ t { nx := fun _ H' => Q .non H', rt := Q } (start N vs) H) :
    FnOk P w K mg base CX (k + 1) f (PySem.W.fnOf name qual params body scope dV kV doc pm an cdv ct) ps sp := by
  refine ⟨len, fun A outer s H args us vs Q E hr e0 hb r hsp => ?_⟩
  have hl := len _ _ _ _ hsp
  have KX : K.In s.heap := e0.mod.kin.keeps fun b o e => (e0.bs b o e).1
  have lim : s.heap.NoLimit := e0.mod.nolimit.keeps fun b o e => (e0.bs b o e).1
  have hkind : ∀ y ∈ ps.zip us, scope.names.lookup y.1 = some .local ∨ (scope.names.lookup y.1 = some .cell ∧ ((cellsFrom (s.heap.objs.size + 1) scope.names []).lookup y.1).isSome = true) := fun ⟨n, v⟩ hy => by
    rcases S.par n (List.of_mem_zip hy).1 with q | q
    · exact .inl q
    · exact .inr ⟨q, PySem.W.cellsFrom_some _ _ _ (.inl q)⟩
  refine codeAny_call_function hr.depth (KX _ _ lk) rfl S.co S.gen rfl (PySem.W.codeRec_of KX hcd) (hb _ _ _ _ ?_)
  refine wpAny_newFunctionEnv_cells S.kind hkind fun env he s1 x => ?_
  subst he
  refine ⟨lim.keeps x.toInCall.keep, codeAny_func ?_⟩
  obtain ⟨t, ht, hq⟩ := hbody A outer s H vs Q E (hr.deeper _) hsp
  have I : Inv (cxOf CX P w K mg base N qual scope f cdv A outer s H E) [] (start N vs) H s1 := inv_start S hr.hd e0 hl r x
  refine wpAny_mono (ht [] s1 (start N vs) H _ I hq) (fun fl s' hs => ?_) fun e s' hs => hs
  have fin : ∀ {σ' : St} {H' : Hp} {v : V} {u : Value}, Inv (cxOf CX P w K mg base N qual scope f cdv A outer s H E) [] σ' H' s' → RelV v u → Q v H' → CE outer P w H s Q u s' :=
    fun {σ' H' v u} J rv q => ⟨v, H', J.os, J.bare, J.base, J.hok, rv, q⟩
  cases fl with
  | ret u =>
    obtain ⟨v, σ', H', J, rv, q⟩ := hs
    exact fin J rv q
  | next =>
    obtain ⟨σ', H', J, q⟩ := hs
    exact fin (v := V.non) (u := Value.none) J rfl q
  | brk =>
    obtain ⟨_, _, _, q⟩ := hs
    exact False.elim q
  | cont =>
    obtain ⟨_, _, _, q⟩ := hs
    exact False.elim q
end L2
namespace L2
open PySem PySem.Spec PyProof.Rows
section
variable {X : Cx} {x : Str} {p pos : Pos} {e : Expr} {es : List Expr} {t : TA} {id T : String} {r : List V → Hp → VK → Prop}
def tCB (r : List V → Hp → VK → Prop) (t : TA) : TE := fun σ H Q => t σ H fun vs H1 => r vs H1 Q
theorem pe_callB (hc : CallR X (.builtin id) r) (hg : Gl X x) (hm : X.mg x = none) (hv : bootBuiltins x = some (.builtin id)) (ha : PA X (e :: es) t) (hn : x ≠ "__name__" := by decide) (hdb : (x == ("__debug__" : Str)) = false := by decide)
    (he : starEach (e :: es) X.env = (false, eval e X.env) :: starEach es X.env := by rfl) (hpl : (backTo pos (starEach es X.env)).any (·.1) = false := by rfl) : PE X (.Call (.Name x p) (e :: es) [] pos) (tCB r t) := by
  intro pins s σ H Q I h
  refine wpAny_Call_Name_kw (ld_blt I hg hm hv ?_ hn hdb)
  exact PyProof.Rows.callWith_builtin1 (thn (ha pos pins s σ H _ I h) fun us s1 ⟨vs, H1, I1, r1, q1⟩ => hc pins s1 σ H1 vs us Q I1 r1 q1) he hpl
theorem pe_callTy (hc : CallR X (.type T) r) (hg : Gl X x) (hm : X.mg x = none) (hv : bootBuiltins x = some (.type T)) (ha : PA X (e :: es) t) (hn : x ≠ "__name__" := by decide) (hdb : (x == ("__debug__" : Str)) = false := by decide)
    (he : starEach (e :: es) X.env = (false, eval e X.env) :: starEach es X.env := by rfl) (hpl : (backTo pos (starEach es X.env)).any (·.1) = false := by rfl) : PE X (.Call (.Name x p) (e :: es) [] pos) (tCB r t) := by
  intro pins s σ H Q I h
  refine wpAny_Call_Name_kw (ld_blt I hg hm hv ?_ hn hdb)
  exact PyProof.Rows.callWith_type1 (thn (ha pos pins s σ H _ I h) fun us s1 ⟨vs, H1, I1, r1, q1⟩ => hc pins s1 σ H1 vs us Q I1 r1 q1) he hpl
end
end L2
namespace HT
open PySem PyProof.Rows
section
open PySem.SeqAt
open PySem.AutoSeq1 (wpAny_loadPart')
open PySem.MeetsSeq PySem.MeetsSeq2 PySem.MeetsSeq3
end
section
variable {prog : Program} {w : World} {A : Around} {E : Value → Shared → Prop} {s : Shared}
def sIx (n d : Nat) : Option Int → Nat
  | none => d
  | some v => if v < 0 then (v + (n : Int)).toNat else min v.toNat n
theorem sIx_none (n d : Nat) : sIx n d none = d := rfl
theorem sIx_nat (n d k : Nat) : sIx n d (some (k : Int)) = min k n := by
  show (if (k : Int) < 0 then ((k : Int) + (n : Int)).toNat else min (k : Int).toNat n) = min k n
  rw [if_neg (by omega), Int.toNat_natCast]
end
end HT
namespace L2
open PySem PySem.Spec PyProof.Rows
abbrev TO := St → Hp → (Option Int → Hp → Prop) → Prop
def PO (X : Cx) (e : Option Expr) (t : TO) : Prop :=
  ∀ (pins : List (Addr × Obj)) (s : Shared) (σ : St) (H : Hp) (Q : Option Int → Hp → Prop), Inv X pins σ H s → t σ H Q →
    wpAny (model X.prog X.w) X.A (evalPart e X.env) (fun u s' => ∃ o H', Inv X pins σ H' s' ∧ IsPart u o ∧ Q o H') X.xe s
def tNoPart : TO := fun _ H Q => Q none H
def tPart (t : TE) : TO := fun σ H Q => t σ H fun x H1 => ∃ i, x = .int i ∧ Q (some i) H1
section
variable {X : Cx} {e : Expr} {te : TE} {lo hi : Option Expr} {tl th : TO} {pos p2 : Pos}
theorem po_none : PO X none tNoPart := by
  intro pins s σ H Q I h
  rw [evalPart_none]
  exact wpAny_pure ⟨none, H, I, .none, h⟩
theorem po_some (h : PE X e te) : PO X (some e) (tPart te) := by
  intro pins s σ H Q I hw
  rw [evalPart_some]
  refine thn (h pins s σ H _ I hw) fun u s1 ⟨x, H1, I1, r1, q1⟩ => ?_
  obtain ⟨i, rfl, q⟩ := q1
  obtain ⟨t, rfl⟩ := r1
  exact ⟨some i, H1, I1, .int i t, q⟩
def SlR (X : Cx) (r : V → Option Int → Option Int → Hp → VK → Prop) : Prop :=
  ∀ (pins : List (Addr × Obj)) (s : Shared) (σ : St) (H : Hp) (x : V) (v vl vu : Value) (lo hi : Option Int) (sl : Addr) (Q : VK), Inv X pins σ H s → RelV x v → s.heap.IsSliceOf sl vl vu .none → IsPart vl lo → IsPart vu hi → r x lo hi H Q →
    ∃ T id, typeLookup (.type T) "__getitem__" = pure (some (.builtin id)) ∧ s.TypeIs v T ∧ wpAny (model X.prog X.w) X.A (getItem v (.ref sl)) (EP X pins σ Q) X.xe s
theorem SlR.or {r r' : V → Option Int → Option Int → Hp → VK → Prop} (h : SlR X r) (h' : SlR X r') : SlR X (fun x lo hi H Q => r x lo hi H Q ∨ r' x lo hi H Q) := by
  intro pins s σ H x v vl vu lo hi sl Q I rx hs pl pu q
  rcases q with q | q
  · exact h pins s σ H x v vl vu lo hi sl Q I rx hs pl pu q
  · exact h' pins s σ H x v vl vu lo hi sl Q I rx hs pl pu q
def tSl (r : V → Option Int → Option Int → Hp → VK → Prop) (te : TE) (tl th : TO) : TE := fun σ H Q => te σ H fun x H1 => tl σ H1 fun l H2 => th σ H2 fun u H3 => r x l u H3 Q
theorem pe_slice {r : V → Option Int → Option Int → Hp → VK → Prop} (hr : SlR X r) (he : PE X e te) (hl : PO X lo tl) (hu : PO X hi th) : PE X (.Subscript e (.Slice lo hi none p2) pos) (tSl r te tl th) := by
  intro pins s σ H Q I h
  refine Subscript_ (thn (he pins s σ H _ I h) fun v s1 ⟨x, H1, I1, r1, q1⟩ => ?_)
  refine wpAny_Slice (thn (hl pins s1 σ H1 _ I1 q1) fun vl s2 ⟨l, H2, I2, pl, q2⟩ => thn (hu pins s2 σ H2 _ I2 q2) fun vu s3 ⟨u, H3, I3, pu, q3⟩ => ?_)
  rw [evalPart_none]
  refine wpAny_pure ?_
  have I4 : Inv X pins σ H3 { s3 with heap := s3.heap.push { cls := .type "slice", data := .fields #[vl, vu, .none] } } := I3.kept (t' := s3.toks) fun b ob q => Heap.get?_push_of_some _ q
  obtain ⟨T, id, hT, ht, hg⟩ := hr pins { s3 with heap := s3.heap.push { cls := .type "slice", data := .fields #[vl, vu, .none] } } σ H3 x v vl vu l u s3.heap.objs.size Q I4 r1 (Heap.IsSliceOf.new ..) pl pu q3
  show wpAny (model X.prog X.w) X.A (subscriptTail e (.Slice lo hi none p2) v (.ref s3.heap.objs.size)) (EP X pins σ Q) X.xe { s3 with heap := s3.heap.push { cls := .type "slice", data := .fields #[vl, vu, .none] } }
  exact tail_any (ops := [.ref s3.heap.objs.size, v]) ht hT hg (by with_unfolding_all rfl)
def cutV (xs : List V) (lo hi : Option Int) : List V := (xs.drop (HT.sIx xs.length 0 lo)).take (HT.sIx xs.length xs.length hi - HT.sIx xs.length 0 lo)
theorem cutV_length (xs : List V) (lo hi : Option Int) : (cutV xs lo hi).length ≤ xs.length := by
  unfold cutV
  rw [List.length_take, List.length_drop]
  omega
end
end L2
namespace L2
open PySem PySem.Spec PyProof.Rows
def ixN (n : Nat) (i : Int) : Option Nat := if 0 ≤ i then (if i < n then some i.toNat else none) else if -(n : Int) ≤ i then some (i + n).toNat else none
def atI {α : Type} (xs : List α) (i : Int) : Option α := (ixN xs.length i).bind fun j => xs[j]?
theorem ixN_seq {n : Nat} {i : Int} {j : Nat} (h : ixN n i = some j) : seqIndex? i n = some j ∧ j < n ∧ -(n : Int) ≤ i ∧ i < n := by
  unfold ixN at h
  by_cases h0 : 0 ≤ i
  · rw [if_pos h0] at h
    by_cases h1 : i < n
    · rw [if_pos h1] at h
      have e : i.toNat = j := Option.some.inj h
      exact ⟨by rw [seqIndex_of h0 h1, e], by omega, by omega, h1⟩
    · rw [if_neg h1] at h; cases h
  · rw [if_neg h0] at h
    by_cases h1 : -(n : Int) ≤ i
    · rw [if_pos h1] at h
      have e : (i + n).toNat = j := Option.some.inj h
      exact ⟨by rw [seqIndex_neg (by omega) h1, e], by omega, h1, by omega⟩
    · rw [if_neg h1] at h; cases h
theorem atI_get {α : Type} {xs : List α} {i : Int} {v : α} (h : atI xs i = some v) : ∃ j, seqIndex? i xs.length = some j ∧ xs[j]? = some v ∧ j < xs.length ∧ -(xs.length : Int) ≤ i ∧ i < xs.length := by
  unfold atI at h
  cases e : ixN xs.length i with
  | none => rw [e] at h; cases h
  | some j =>
    rw [e] at h
    obtain ⟨h1, h2, h3, h4⟩ := ixN_seq e
    exact ⟨j, h1, h, h2, h3, h4⟩
theorem atI_nat {α : Type} {xs : List α} {j : Nat} {v : α} (h : xs[j]? = some v) : atI xs (j : Int) = some v := by
  have hj : j < xs.length := (List.getElem?_eq_some_iff.mp h).1
  have e : ixN xs.length (j : Int) = some j := by
    unfold ixN
    rw [if_pos (by omega), if_pos (by omega)]; simp
  unfold atI; rw [e]; exact h
def PlainIx (b : Expr) : Prop := ∀ o i, subscripted b false o i = operate [o, i] (getItem o i)
def IxR (X : Cx) (r : R2) : Prop :=
  ∀ (value slice : Expr) (pins : List (Addr × Obj)) (s : Shared) (σ : St) (H : Hp) (x y : V) (v u : Value) (Q : VK), Inv X pins σ H s → RelV x v → RelV y u → r x y H Q →
    subscripted slice false v u = operate [v, u] (getItem v u) → wpAny (model X.prog X.w) X.A (subscriptTail value slice v u) (EP X pins σ Q) X.xe s
def MtR (X : Cx) (id : String) (r : V → List V → Hp → VK → Prop) : Prop :=
  ∀ (pins : List (Addr × Obj)) (s : Shared) (σ : St) (H : Hp) (x : V) (xs : List V) (v : Value) (us : List Value) (Q : VK), Inv X pins σ H s → RelV x v → Vals xs us → r x xs H Q →
    wpAny (model X.prog X.w) X.A (call (.builtin id) (v :: us)) (EP X pins σ Q) X.xe s
section
variable {X : Cx} {a b : Expr} {ta tb : TE} {pos : Pos}
theorem IxR.or {r r' : R2} (h : IxR X r) (h' : IxR X r') : IxR X (fun x y H Q => r x y H Q ∨ r' x y H Q) := by
  intro value slice pins s σ H x y v u Q I rx ry q hs
  rcases q with q | q
  · exact h value slice pins s σ H x y v u Q I rx ry q hs
  · exact h' value slice pins s σ H x y v u Q I rx ry q hs
theorem MtR.or {id : String} {r r' : V → List V → Hp → VK → Prop} (h : MtR X id r) (h' : MtR X id r') : MtR X id (fun x xs H Q => r x xs H Q ∨ r' x xs H Q) := by
  intro pins s σ H x xs v us Q I rx rs q
  rcases q with q | q
  · exact h pins s σ H x xs v us Q I rx rs q
  · exact h' pins s σ H x xs v us Q I rx rs q
theorem pe_ix {r : R2} (hr : IxR X r) (ha : PE X a ta) (hb : PE X b tb) (hs : PlainIx b) : PE X (.Subscript a b pos) (tOp r ta tb) := by
  intro pins s σ H Q I h
  exact Subscript_ (binT ha hb I h fun v u s2 x y H2 I2 rx ry q => hr a b pins s2 σ H2 x y v u Q I2 rx ry q (hs _ _))
def rIxL (K : PySem.W.Frag) : R2 := fun x y H Q => ∃ p xs i v, x = .ref p ∧ y = .int i ∧ SqL K H p xs ∧ atI xs i = some v ∧ Q v H
def rIxS : R2 := fun x y H Q => ∃ z i c, x = .str z ∧ y = .int i ∧ z.length ≤ sizeLine ∧ atI z.cps.toList i = some c ∧ Q (.str ⟨#[c]⟩) H
theorem ix_list : IxR X (rIxL X.K) := by
  intro value slice pins s σ H x y v u Q I rx ry h hs
  obtain ⟨p, xs, i, z, rfl, rfl, hq, he, q⟩ := h
  cases rx
  obtain ⟨t, rfl⟩ := ry
  obtain ⟨its, r, pl, hz⟩ := I.list hq
  obtain ⟨j, h1, h2, h3, h4, h5⟩ := atI_get he
  obtain ⟨w, ew, rw'⟩ := r.get h2
  have hl := r.length
  have hn := line63
  have fin : EP X pins σ Q w s := ⟨z, H, I, rw', q⟩
  by_cases h0 : 0 ≤ i
  · have hj : i.toNat = j := by
      rw [seqIndex_of h0 h5] at h1
      exact Option.some.inj h1
    exact item_listR pl.isList h0 (by omega) (by rw [hj]; simpa using ew) fin hs
  · have hj : (i + (its.toArray.size : Int)).toNat = j := by
      rw [seqIndex_neg (by omega) h4] at h1
      rw [List.size_toArray, ← hl]
      exact Option.some.inj h1
    exact subscriptTail_builtinR (x := w) pl.isList.typeIs slot_list_getitem.lookup
      (wpAny_getItem_list_neg (Q := fun r s' => r = w ∧ EP X pins σ Q r s') pl.isList (by omega) (by rw [List.size_toArray] <;> omega) (by omega) (by rw [hj]; simpa using ew) ⟨rfl, fin⟩) hs
theorem ix_str : IxR X rIxS := by
  intro value slice pins s σ H x y v u Q I rx ry h hs
  obtain ⟨z, i, c, rfl, rfl, hz, he, q⟩ := h
  obtain ⟨t, rfl⟩ := rx
  obtain ⟨t', rfl⟩ := ry
  obtain ⟨j, h1, h2, h3, h4, h5⟩ := atI_get he
  have hl : z.cps.toList.length = z.length := by simp [Str.length]
  rw [hl] at h1 h4 h5
  have hn := line63
  exact tail_any (typeIs_str s z t) slot_str_getitem.lookup (getItem_str (c := c) (by
    have e1 : decide (i < -(2 ^ 63 : Int)) = false := decide_eq_false (by omega)
    have e2 : decide (i ≥ 2 ^ 63) = false := decide_eq_false (by omega)
    rw [e1, e2, Bool.or_false]) (by rw [h1]; simpa using h2) ⟨.str ⟨#[c]⟩, H, I.tok _, ⟨_, rfl⟩, q⟩) hs
theorem Inv.lst {pins : List (Addr × Obj)} {σ : St} {H : Hp} {s : Shared} {p : Addr} {xs : List V} (I : Inv X pins σ H s) (h : H p = some (.lst xs)) :
    ∃ (its : List Value) (n : Nat), Vals xs its ∧ s.heap.get? p = some { cls := .type "list", data := .seq its.toArray n } ∧ xs.length ≤ sizeLine := by
  obtain ⟨z, its, n, r, e⟩ := I.hok p _ h
  exact ⟨its, n, r, e, z⟩
theorem slice_bounds (lo hi : Option Int) (n : Nat) : (sliceBounds lo hi none n).1 = ((HT.sIx n 0 lo : Nat) : Int) ∧ (sliceBounds lo hi none n).2.1 = ((HT.sIx n n hi : Nat) : Int) ∧ (sliceBounds lo hi none n).2.2 = 1 := by
  refine ⟨?_, ?_, rfl⟩
  · cases lo with
    | none => simp [sliceBounds, HT.sIx]
    | some i =>
      simp only [sliceBounds, HT.sIx, Option.getD_none, show (1 : Int) > 0 by decide, if_true]
      by_cases h : i < 0
      · simp only [h, if_true] <;> omega
      · simp only [h, if_false] <;> omega
  · cases hi with
    | none => simp [sliceBounds, HT.sIx]
    | some i =>
      simp only [sliceBounds, HT.sIx, Option.getD_none, show (1 : Int) > 0 by decide, if_true]
      by_cases h : i < 0
      · simp only [h, if_true] <;> omega
      · simp only [h, if_false] <;> omega
theorem slicePick_cut (its : List Value) (lo hi : Option Int) : slicePick its.toArray lo hi none = ((its.drop (HT.sIx its.length 0 lo)).take (HT.sIx its.length its.length hi - HT.sIx its.length 0 lo)).toArray := by
  obtain ⟨h1, h2, h3⟩ := slice_bounds lo hi its.toArray.size
  unfold slicePick
  rw [h1, h2, h3]
  simp only [sliceRange_one, pick_run, List.size_toArray] <;> rfl
def rSlL (K : PySem.W.Frag) : V → Option Int → Option Int → Hp → VK → Prop := fun x lo hi H Q => ∃ a xs, x = .ref a ∧ SqL K H a xs ∧ ∀ p, H p = none → Q (.ref p) (upd H p (.lst (cutV xs lo hi)))
theorem sl_list : SlR X (rSlL X.K) := by
  intro pins s σ H x v vl vu lo hi sl Q I rx hs pl pu h
  obtain ⟨a, xs, rfl, hx, q⟩ := h
  cases rx
  obtain ⟨its, r, ht, hz⟩ := I.list hx
  have hlen := r.length
  refine ⟨"list", _, slot_list_getitem.lookup, ht.isList.typeIs, ?_⟩
  refine wpAny_getItem_list_slice ht.isList hs pl pu .none (by simp) ?_ (by rw [List.size_toArray] <;> omega)
  rw [slicePick_cut, ← hlen]
  refine ⟨.ref s.heap.objs.size, _, I.laid (t' := s.toks) (o := .lst (cutV xs lo hi)) (fun b ob q => Heap.get?_push_of_some _ q) (Nat.le_refl _) ?_, rfl, q _ (I.hok.fresh (Nat.le_refl _))⟩
  exact ⟨Nat.le_trans (cutV_length xs lo hi) hz, _, 0, (r.drop (HT.sIx xs.length 0 lo)).take (HT.sIx xs.length xs.length hi - HT.sIx xs.length 0 lo), Heap.get?_push_size _ rfl⟩
def flatV : V → Bool
  | .non => true
  | .bl _ => true
  | .int _ => true
  | .str _ => true
  | _ => false
def eqV : V → V → Bool
  | .non, .non => true
  | .bl a, .bl b => a == b
  | .bl a, .int b => (if a then 1 else 0) == b
  | .int a, .bl b => a == (if b then 1 else 0)
  | .int a, .int b => a == b
  | .str a, .str b => a == b
  | _, _ => false
theorem eqAt_V {A : Around} {s : Shared} {y x : V} {u v : Value} (ry : RelV y u) (rx : RelV x v) (fy : flatV y = true) (fx : flatV x = true) : SeqAt.EqAt A s u v (eqV y x) := by
  cases y with
  | non =>
    cases ry
    cases x with
    | non => cases rx; exact SeqAt.EqAt.same _
    | bl b => cases rx; exact SeqAt.EqAt.none_bool b
    | int b => obtain ⟨t, rfl⟩ := rx; exact SeqAt.EqAt.none_int b t
    | str b => obtain ⟨t, rfl⟩ := rx; exact SeqAt.EqAt.none_str b t
    | _ => exact absurd (show false = true from fx) Bool.false_ne_true
  | bl a =>
    cases ry
    cases x with
    | non => cases rx; exact SeqAt.EqAt.bool_none a
    | bl b => cases rx; exact SeqAt.EqAt.bool_bool a b
    | int b => obtain ⟨t, rfl⟩ := rx; exact SeqAt.EqAt.bool_int a b t
    | str b => obtain ⟨t, rfl⟩ := rx; exact SeqAt.EqAt.bool_str a b t
    | _ => exact absurd (show false = true from fx) Bool.false_ne_true
  | int a =>
    obtain ⟨t', rfl⟩ := ry
    cases x with
    | non => cases rx; exact SeqAt.EqAt.int_none a t'
    | bl b => cases rx; exact SeqAt.EqAt.int_bool a t' b
    | int b => obtain ⟨t, rfl⟩ := rx; exact SeqAt.EqAt.int_int a t' b t
    | str b => obtain ⟨t, rfl⟩ := rx; exact SeqAt.EqAt.int_str a t' b t
    | _ => exact absurd (show false = true from fx) Bool.false_ne_true
  | str a =>
    obtain ⟨t', rfl⟩ := ry
    cases x with
    | non => cases rx; exact SeqAt.EqAt.str_none a t'
    | bl b => cases rx; exact SeqAt.EqAt.str_bool a t' b
    | int b => obtain ⟨t, rfl⟩ := rx; exact SeqAt.EqAt.str_int a t' b t
    | str b => obtain ⟨t, rfl⟩ := rx; exact SeqAt.EqAt.str_str a t' b t
    | _ => exact absurd (show false = true from fx) Bool.false_ne_true
  | _ => exact absurd (show false = true from fy) Bool.false_ne_true
theorem call_len_seq : CallR X (.builtin "len") (fun xs H Q => ∃ p ys, xs = [.ref p] ∧ (SqL X.K H p ys ∨ SqT X.K H p ys) ∧ Q (.int ys.length) H) := by
  intro pins s σ H xs us Q I r h
  obtain ⟨p, ys, rfl, hq, q⟩ := h
  obtain ⟨u, rfl, rx⟩ := vals1 r
  cases rx
  have hn := line63
  rcases hq with hq | hq
  · obtain ⟨its, r', pl, hz⟩ := I.list hq
    have hlen := r'.length
    exact Calls.call_len_list pl.isList (by simp only [List.size_toArray] <;> omega) ⟨.int ys.length, H, I.tok _, ⟨s.toks + 1, by rw [List.size_toArray, hlen]⟩, q⟩
  · obtain ⟨its, r', pl, hz⟩ := I.tuple hq
    have hlen := r'.length
    exact len_tuple pl (by simp only [List.size_toArray] <;> omega) ⟨.int ys.length, H, I.tok _, ⟨s.toks + 1, by rw [List.size_toArray, hlen]⟩, q⟩
theorem call_len_str : CallR X (.builtin "len") (fun xs H Q => ∃ z, xs = [.str z] ∧ z.length ≤ sizeLine ∧ Q (.int z.length) H) := by
  intro pins s σ H xs us Q I r h
  obtain ⟨z, rfl, hz, q⟩ := h
  obtain ⟨u, rfl, t, rfl⟩ := vals1 r
  have hn := line63
  exact len_str (by omega) ⟨.int z.length, H, I.tok _, ⟨_, rfl⟩, q⟩
theorem CallR.or {f : Value} {r r' : List V → Hp → VK → Prop} (h : CallR X f r) (h' : CallR X f r') : CallR X f (fun xs H Q => r xs H Q ∨ r' xs H Q) := by
  intro pins s σ H xs us Q I rs q
  rcases q with q | q
  · exact h pins s σ H xs us Q I rs q
  · exact h' pins s σ H xs us Q I rs q
def tyV (K : PySem.W.Frag) (T : String) (x : V) (H : Hp) : Prop := match x with
  | .str _ => T = "str"
  | .int _ => T = "int"
  | .ref p => (T = "list" ∧ ∃ xs, SqL K H p xs) ∨ (T = "tuple" ∧ ∃ o, K.lookup p = some o ∧ o.cls = .type "tuple" ∧ o.dict = none) ∨
      (T = "dict" ∧ ((∃ kvs, H p = some (.dK kvs)) ∨ ∃ kvs, H p = some (.dT kvs))) ∨ (T = "set" ∧ ∃ S n, H p = some (.set S n))
  | _ => False
theorem tyV_is {pins : List (Addr × Obj)} {σ : St} {H : Hp} {s : Shared} {T : String} {x : V} {v : Value} (I : Inv X pins σ H s) (r : RelV x v) (ty : tyV X.K T x H) :
    s.TypeIs v T ∧ ∀ a, v = .ref a → ∃ ob, s.heap.get? a = some ob ∧ ob.dict = none := by
  cases x with
  | str z =>
    obtain ⟨t, rfl⟩ := r
    cases (show T = "str" from ty)
    exact ⟨typeIs_str s z t, fun _ e => nomatch e⟩
  | int i =>
    obtain ⟨t, rfl⟩ := r
    cases (show T = "int" from ty)
    exact ⟨typeIs_int s i t, fun _ e => nomatch e⟩
  | ref p =>
    cases r
    rcases ty with ⟨rfl, xs, hq⟩ | ⟨rfl, o, hk, hc, hd⟩ | ⟨rfl, hk⟩ | ⟨rfl, S, n, hk⟩
    · obtain ⟨its, _, pl, _⟩ := I.list hq
      refine ⟨pl.isList.typeIs, fun a e => ?_⟩
      cases e
      obtain ⟨o, n, e, c, hd, _⟩ := pl
      exact ⟨o, e, hd⟩
    · refine ⟨⟨o, I.kIn p o hk, hc⟩, fun a e => ?_⟩
      cases e
      exact ⟨o, I.kIn _ o hk, hd⟩
    · have z : ∃ o, s.heap.get? p = some o ∧ o.ExactDict := by
        rcases hk with ⟨kvs, hk⟩ | ⟨kvs, hk⟩
        · obtain ⟨_, _, _, _, o, _, _, e, ex, _⟩ := I.hok p _ hk
          exact ⟨o, e, ex⟩
        · obtain ⟨_, _, _, _, o, _, _, e, ex, _⟩ := I.hok p _ hk
          exact ⟨o, e, ex⟩
      obtain ⟨o, e, ex⟩ := z
      refine ⟨⟨o, e, ex.1⟩, fun a e2 => ?_⟩
      cases e2
      exact ⟨o, e, ex.2.1⟩
    · obtain ⟨o, _, _, _, e, ex, _⟩ := I.hok p _ hk
      refine ⟨⟨o, e, ex.1⟩, fun a e2 => ?_⟩
      cases e2
      exact ⟨o, e, ex.2.1⟩
  | _ => exact False.elim ty
def tBM0 (K : PySem.W.Frag) (T : String) (r : V → List V → Hp → VK → Prop) (to : TE) : TE := fun σ H Q => to σ H fun x H1 => tyV K T x H1 ∧ r x [] H1 Q
def tBM (K : PySem.W.Frag) (T : String) (r : V → List V → Hp → VK → Prop) (to : TE) (t : TA) : TE := fun σ H Q => to σ H fun x H1 => tyV K T x H1 ∧ t σ H1 fun xs H2 => r x xs H2 Q
variable {o e : Expr} {es : List Expr} {to : TE} {t : TA} {name : Str} {apos cpos : Pos} {T id : String} {r : V → List V → Hp → VK → Prop}
theorem pe_bm0 (pa : PlainAttrs T) (slot : Slot T name id) (hty : typeOf (.builtin id) = pure (.type "method_descriptor")) (hm : MtR X id r) (ho : PE X o to)
    (hbase : attributeBase o name X.env (eval o X.env) = eval o X.env := by rfl) (hline : (apos.endLine == cpos.line) = true := by rfl) : PE X (.Call (.Attribute o name apos) [] [] cpos) (tBM0 X.K T r to) := by
  intro pins s σ H Q I h
  refine wpAny_Call_method0_late hbase hline (thn (ho pins s σ H _ I h) fun v s1 ⟨x, H1, I1, r1, ty, q1⟩ => ?_)
  obtain ⟨h1, h2⟩ := tyV_is I1 r1 ty
  exact ⟨T, id, pa, slot, hty, h1, h2, Calls.callWith_builtin rfl (PySem.evalArgs_none (hm pins s1 σ H1 x [] v [] Q I1 r1 .nil q1))⟩
theorem pe_bm (pa : PlainAttrs T) (slot : Slot T name id) (hty : typeOf (.builtin id) = pure (.type "method_descriptor")) (hm : MtR X id r) (ho : PE X o to) (ha : PA X (e :: es) t)
    (hbase : attributeBase o name X.env (eval o X.env) = eval o X.env := by rfl)
    (hfew : ((backTo cpos (starEach (e :: es) X.env)).all (fun x => !x.1) && (backToKw cpos (keywordEach [] X.env)).all (fun x => x.1.isSome)
      && decide ((e :: es).length + ([] : List Keyword).length + (if ([] : List Keyword).isEmpty then 0 else 1) < 30)) = true := by rfl)
    (hline : (apos.endLine == cpos.line) = true := by rfl) (hs : starEach (e :: es) X.env = (false, eval e X.env) :: starEach es X.env := by rfl) (hplain : (backTo cpos (starEach es X.env)).any (·.1) = false := by rfl) :
    PE X (.Call (.Attribute o name apos) (e :: es) [] cpos) (tBM X.K T r to t) := by
  intro pins s σ H Q I h
  refine wpAny_Call_method_late hbase hfew hline rfl (thn (ho pins s σ H _ I h) fun v s1 ⟨x, H1, I1, r1, ty, q1⟩ => ?_)
  obtain ⟨h1, h2⟩ := tyV_is I1 r1 ty
  refine ⟨T, id, pa, slot, hty, h1, h2, ?_⟩
  have hA := ha cpos pins s1 σ H1 _ I1 q1
  rw [hs] at hA ⊢
  refine Calls.callWith_builtin (by show (false || (backTo cpos (starEach es X.env)).any (·.1)) = false; rw [hplain] <;> rfl) (Calls.evalArgs_plain ?_)
  exact thn hA fun us s2 ⟨vs, H2, I2, r2, q2⟩ => hm pins s2 σ H2 x vs v us Q I2 r1 r2 q2
end
end L2
namespace L2
open PySem PySem.Spec PyProof.Rows
def MtM (X : Cx) (id : String) (r : V → List V → Hp → VK → Prop) : Prop :=
  ∀ (pins : List (Addr × Obj)) (s : Shared) (σ : St) (H : Hp) (x : V) (xs : List V) (v : Value) (us : List Value) (Q : VK), Inv X pins σ H s → RelV x v → Vals xs us → r x xs H Q →
    wpAny (model X.prog X.w) X.A (call (.builtin id) (v :: us)) (EP X pins σ Q) X.xe s
theorem Vals.one : ∀ {x : V} {us : List Value}, Vals [x] us → ∃ u, us = [u] ∧ RelV x u
  | _, _, .cons r .nil => ⟨_, rfl, r⟩
theorem Vals.zero : ∀ {us : List Value}, Vals [] us → us = []
  | _, .nil => rfl
theorem Vals.dropLast {xs : List V} {us : List Value} (h : Vals xs us) : Vals xs.dropLast us.dropLast := by
  induction h with
  | nil => exact .nil
  | cons r t ih =>
    cases t with
    | nil => exact .nil
    | cons q t' => exact .cons r ih
theorem Vals.eraseIdx : ∀ {xs : List V} {us : List Value} (i : Nat), Vals xs us → Vals (xs.eraseIdx i) (us.eraseIdx i)
  | _, _, _, .nil => .nil
  | _, _, 0, .cons _ t => t
  | _, _, i + 1, .cons r t => .cons r (Vals.eraseIdx i t)
theorem Vals.rep {xs : List V} {us : List Value} (h : Vals xs us) : ∀ k : Nat, Vals (List.replicate k xs).flatten (List.replicate k us).flatten
  | 0 => .nil
  | k + 1 => by
    rw [List.replicate_succ, List.replicate_succ, List.flatten_cons, List.flatten_cons]
    exact Vals.append h (Vals.rep h k)
theorem erase_last {α : Type} (l : List α) : l.eraseIdx (l.length - 1) = l.dropLast := by
  induction l with
  | nil => rfl
  | cons a r ih =>
    cases r with
    | nil => rfl
    | cons b r =>
      have e : (a :: b :: r).length - 1 = ((b :: r).length - 1) + 1 := by
        have h1 : (a :: b :: r).length = r.length + 2 := rfl
        have h2 : (b :: r).length = r.length + 1 := rfl
        omega
      rw [e, List.eraseIdx_cons_succ, ih]
      all_goals rfl
theorem foldl_rep (its : List Value) : ∀ (k : Nat) (acc : List Value),
    List.foldl (fun x1 x2 => x1 ++ x2) acc.toArray (List.replicate k its.toArray) = (acc ++ (List.replicate k its).flatten).toArray
  | 0, acc => by simp
  | k + 1, acc => by
    have e : acc.toArray ++ its.toArray = (acc ++ its).toArray := by simp
    have e2 : (acc ++ its) ++ (List.replicate k its).flatten = acc ++ (List.replicate (k + 1) its).flatten := by
      rw [List.replicate_succ, List.flatten_cons, List.append_assoc]
    rw [← e2, ← foldl_rep its k (acc ++ its), ← e, List.replicate_succ, List.foldl_cons]
section
variable {X : Cx} {pins : List (Addr × Obj)} {σ : St} {H : Hp} {s : Shared} {l b : Addr} {xs ys zs : List V}
theorem Inv.lset {its its' : List Value} {n : Nat} {f : Array Value → Array Value} {t' : Nat} (I : Inv X pins σ H s) (hH : H l = some (.lst xs))
    (e : s.heap.get? l = some { cls := .type "list", data := .seq its.toArray n }) (hf : f its.toArray = its'.toArray) (hv : Vals ys its') (hz : ys.length ≤ sizeLine) :
    Inv X pins σ (upd H l (.lst ys)) { s with heap := s.heap.update l (Obj.mapSeq f), toks := t' } := by
  have q := PySem.IsL.update e f
  rw [hf] at q
  refine I.write (x := l) (e := l) (by rw [hH]; exact trivial) (.inl rfl) (fun b' u hb hu => (Heap.get?_update_other s.heap (Obj.mapSeq f) (Ne.symm hb)).trans hu) ⟨_, q⟩ ?_
  exact ⟨hz, its', _, hv, q⟩
theorem Inv.lnew {its : List Value} {t' : Nat} (I : Inv X pins σ H s) (hv : Vals ys its) (hz : ys.length ≤ sizeLine) :
    Inv X pins σ (upd H s.heap.objs.size (.lst ys)) { s with heap := s.heap.push { cls := .type "list", data := .seq its.toArray }, toks := t' } :=
  I.laid (fun _ _ q => Heap.get?_push_of_some _ q) (Nat.le_refl _) ⟨hz, its, 0, hv, Heap.get?_push_size _ rfl⟩
theorem Inv.fresh (I : Inv X pins σ H s) : H s.heap.objs.size = none := I.hok.fresh (Nat.le_refl _)
theorem Inv.lstM (I : Inv X pins σ H s) (hH : H l = some (.lst xs)) : xs.length ≤ sizeLine ∧ ∃ (its : List Value) (n : Nat), Vals xs its ∧ xs.length = its.length ∧ s.heap.get? l = some { cls := .type "list", data := .seq its.toArray n } := by
  obtain ⟨z, its, n, r, e⟩ := I.hok l _ hH
  exact ⟨z, its, n, r, r.length, e⟩
theorem notLongL {n : Nat} (h : n ≤ sizeLine) : Builtin.List.listTooLong n = false := by
  unfold Builtin.List.listTooLong
  exact decide_eq_false (by omega)
end
section
variable {X : Cx}
def rAppend : V → List V → Hp → VK → Prop := fun x vs H Q => ∃ l xs y, x = .ref l ∧ vs = [y] ∧ H l = some (.lst xs) ∧ xs.length < sizeLine ∧ Q .non (upd H l (.lst (xs ++ [y])))
theorem mt_append : MtM X "list.append" rAppend := by
  intro pins s σ H x vs v us Q I rx rv h
  obtain ⟨l, xs, y, rfl, rfl, hH, hz, q⟩ := h
  cases rx
  obtain ⟨u, rfl, ru⟩ := rv.one
  obtain ⟨z, its, n, r, hl, e⟩ := I.lstM hH
  refine call_meets F.slot_list_append ⟨_, e, rfl⟩ F.entry_list_append (F.args_list_append_2 _ _) (PySem.list_append l its.toArray n u (by rw [List.size_toArray]; omega)) ⟨e, ?_⟩
  refine ⟨.non, _, I.lset (its' := its ++ [u]) hH e (by simp) (r.append (.cons ru .nil)) ?_, rfl, q⟩
  rw [List.length_append, List.length_singleton]
  omega
def rExtend : V → List V → Hp → VK → Prop := fun x vs H Q => ∃ l b xs zs, x = .ref l ∧ vs = [.ref b] ∧ H l = some (.lst xs) ∧ H b = some (.lst zs) ∧ xs.length + zs.length ≤ sizeLine ∧ Q .non (upd H l (.lst (xs ++ zs)))
theorem mt_extend : MtM X "list.extend" rExtend := by
  intro pins s σ H x vs v us Q I rx rv h
  obtain ⟨l, b, xs, zs, rfl, rfl, hH, hB, hz, q⟩ := h
  cases rx
  obtain ⟨u, rfl, ru⟩ := rv.one
  cases ru
  obtain ⟨z, its, n, r, hl, e⟩ := I.lstM hH
  obtain ⟨z2, its2, n2, r2, hl2, e2⟩ := I.lstM hB
  have hsz : its.toArray.size + its2.toArray.size ≤ sizeLine := by rw [List.size_toArray, List.size_toArray]; omega
  have hlong : ¬ (!its.toArray.isEmpty && Builtin.List.listTooLong (its.toArray.size + its2.toArray.size)) = true := by
    rw [notLongL hsz, Bool.and_false]
    exact Bool.false_ne_true
  refine call_meets F.slot_list_extend ⟨_, e, rfl⟩ F.entry_list_extend (F.args_list_extend_2 _ _)
    (AutoSeq1.list_extend_list_list_0 l its.toArray n b its2.toArray n2 hlong (by rw [List.size_toArray]; omega) (by omega)) ⟨e, e2, ?_⟩
  refine ⟨.non, _, I.lset (its' := its ++ its2) hH e (by simp) (r.append r2) ?_, rfl, q⟩
  rw [List.length_append]
  omega
def rPop : V → List V → Hp → VK → Prop := fun x vs H Q => ∃ l xs y, x = .ref l ∧ vs = [] ∧ H l = some (.lst xs) ∧ xs[xs.length - 1]? = some y ∧ Q y (upd H l (.lst xs.dropLast))
theorem mt_pop : MtM X "list.pop" rPop := by
  intro pins s σ H x vs v us Q I rx rv h
  obtain ⟨l, xs, y, rfl, rfl, hH, hy, q⟩ := h
  cases rx
  have hus := rv.zero
  subst hus
  obtain ⟨z, its, n, r, hl, e⟩ := I.lstM hH
  obtain ⟨u, hu, ru⟩ := r.get hy
  have hy' : its.toArray[its.toArray.size - 1]? = some u := by
    show its.toArray[its.length - 1]? = some u
    rw [← Array.getElem?_toList, ← hl]
    exact hu
  refine call_meets F.slot_list_pop ⟨_, e, rfl⟩ F.entry_list_pop (F.args_list_pop_1 _) (MeetsSeq.list_pop_last l its.toArray n u hy' (by rw [List.size_toArray]; omega)) ⟨e, ?_⟩
  refine ⟨y, _, I.lset (its' := its.dropLast) hH e ?_ r.dropLast ?_, ru, q⟩
  · show its.toArray.eraseIdxIfInBounds (its.toArray.size - 1) = its.dropLast.toArray
    rw [List.size_toArray, List.eraseIdxIfInBounds_toArray, erase_last]
  · rw [List.length_dropLast]
    omega
def rCat : R2 := fun x y H Q => ∃ l b xs zs, x = .ref l ∧ y = .ref b ∧ H l = some (.lst xs) ∧ H b = some (.lst zs) ∧ xs.length + zs.length ≤ sizeLine ∧ ∀ p, H p = none → Q (.ref p) (upd H p (.lst (xs ++ zs)))
theorem op_cat : OpR X (binaryOp .Add) rCat := by
  intro pins s σ H x y v u Q I rx ry h
  obtain ⟨l, b, xs, zs, rfl, rfl, hH, hB, hz, q⟩ := h
  cases rx
  cases ry
  obtain ⟨z, its, n, r, hl, e⟩ := I.lstM hH
  obtain ⟨z2, its2, n2, r2, hl2, e2⟩ := I.lstM hB
  refine PySem.P.add_list e e2 ?_ (by rw [List.size_toArray, List.size_toArray]; omega)
  have ea : its.toArray ++ its2.toArray = (its ++ its2).toArray := by simp
  rw [ea]
  exact ⟨.ref _, _, I.lnew (t' := s.toks) (r.append r2) (by rw [List.length_append]; omega), rfl, q _ I.fresh⟩
def rRep : R2 := fun x y H Q => ∃ l k xs, x = .ref l ∧ y = .int k ∧ H l = some (.lst xs) ∧ -(2 ^ 63) ≤ k ∧ k < 2 ^ 63 ∧ xs.length * k.toNat ≤ sizeLine ∧
  ∀ p, H p = none → Q (.ref p) (upd H p (.lst (List.replicate k.toNat xs).flatten))
theorem len_rep {α : Type} (xs : List α) (k : Nat) : (List.replicate k xs).flatten.length = k * xs.length := by
  induction k with
  | zero => simp
  | succ k ih => rw [List.replicate_succ, List.flatten_cons, List.length_append, ih, Nat.succ_mul, Nat.add_comm]
theorem op_rep : OpR X (binaryOp .Mult) rRep := by
  intro pins s σ H x y v u Q I rx ry h
  obtain ⟨l, k, xs, rfl, rfl, hH, h1, h2, hz, q⟩ := h
  cases rx
  obtain ⟨t, rfl⟩ := ry
  obtain ⟨z, its, n, r, hl, e⟩ := I.lstM hH
  have hlen : its.toArray.size * k.toNat ≤ sizeLine := by rw [List.size_toArray, ← hl]; exact hz
  have hcap : ¬ its.toArray.size * k.toNat > (2 ^ 63 - 1) / 8 := by
    have : (sizeLine : Nat) ≤ (2 ^ 63 - 1) / 8 := by decide
    omega
  have hfit : ¬ (!Builtin.List.listFitsIndex k) = true := by
    rw [fitsIndex_both h1 h2]
    exact Bool.false_ne_true
  have hlong : ¬ Builtin.List.listTooLong (its.toArray.size * k.toNat) = true := by
    rw [notLongL hlen]
    exact Bool.false_ne_true
  have hnew : List.foldl (fun x1 x2 => x1 ++ x2) #[] (List.replicate (if its.toArray.isEmpty = true then 0 else k.toNat) its.toArray) = (List.replicate k.toNat its).flatten.toArray := by
    have f0 : ∀ m : Nat, List.foldl (fun x1 x2 => x1 ++ x2) #[] (List.replicate m its.toArray) = (List.replicate m its).flatten.toArray := fun m => by
      have := foldl_rep its m []
      rw [List.nil_append] at this
      exact this
    rw [f0]
    cases its with
    | nil => simp
    | cons a r' => rw [if_neg (by simp)]
  refine wpAny_binaryOp_repeat_ref (T := "list") (U := "int") (by decide) ⟨_, e, rfl⟩ (fun s' => typeIs_int s' k t) noFill_list_mul F.fills_int_mul F.slot_int_rmul repeat_list F.slot_int_index.lookup
    (call_meets F.slot_int_rmul (typeIs_int s k t) F.entry_int_rmul (F.args_int_rmul_2 _ _) (int___rmul___int_list k t l its.toArray n)
      ⟨e, rfl, ⟨_, e, rfl⟩, call_meets F.slot_list_mul ⟨_, e, rfl⟩ F.entry_list_mul (F.args_list_mul_2 _ _) (AutoListH.list___mul___list_int_3 l its.toArray n k t hfit hcap hlong) ⟨e, ?_⟩⟩)
  rw [hnew]
  exact ⟨.ref _, _, I.lnew (t' := s.toks) (r.rep k.toNat) (by rw [len_rep, Nat.mul_comm]; exact hz), rfl, q _ I.fresh⟩
end
section
variable {prog : Program} {w : World} {A : Around} {E : Value → Shared → Prop} {s : Shared}
end
section
variable {X : Cx}
end
end L2
namespace Att
open PySem PySem.W PySem.Calls PyProof.Rows
theorem ints_of_wellAll {P : Params} {h : Heap} : ∀ (ns : List Int) (vs : List Value), WellAll P h vs (ns.map WData.int) → IntsAre vs ns := by
  intro ns
  induction ns with
  | nil =>
    intro vs w
    rw [List.map_nil] at w
    cases w
    exact .nil
  | cons n ns ih =>
    intro vs w
    rw [List.map_cons] at w
    cases w with
    | cons a b =>
      cases a
      exact .cons _ _ (ih _ b)
theorem script_of {l : OpenLaw} {n : Nat} (hn : l.most = some n) {P : Params} {h : Heap} {args : List WData} {vals : List Value}
    (hpre : l.row.toRowW.claim.pre args = true) (hwl : WellAll P h vals args) :
    ∃ a vs ns, vals = [Value.ref a] ∧ args = [WData.list (ns.map WData.int)] ∧ h.get? a = some { cls := .type "list", data := .seq vs.toArray } ∧ IntsAre vs ns ∧ ns.length ≤ n := by
  have hsh : WShape.hasAll [] args [.list .int] = true := (pre_splitW hpre).1
  have hc : l.pre.holds [] { args := args } = true := (pre_splitW hpre).2
  obtain ⟨d, r, rfl, h1, h2⟩ := hasAllW_cons hsh
  obtain rfl := hasAllW_nil h2
  obtain ⟨xs, rfl, h3⟩ := hasW_list h1
  obtain ⟨ns, rfl⟩ := items_int h3
  have hlen : ns.length ≤ n := by
    unfold OpenLaw.pre at hc
    have h4 : (WTm.not (.lt (.lit (.int (n : Int))) (.len (.arg 0)))).holds [] { args := [.list (ns.map .int)] } = true := by
      have h4 := (holds_andW hc).1
      rw [hn] at h4
      exact h4
    have h5 := condW_of h4 (w_not (w_lt w_lit (w_len_list (w_arg rfl))))
    rw [List.length_map] at h5
    refine Nat.le_of_not_lt fun q => ?_
    have q' : (n : Int) < ((ns.length : Nat) : Int) := by omega
    first
      | (rw [decide_eq_true q'] at h5; exact absurd h5 (by decide))
      | (simp at h5; omega)
  cases hwl with
  | cons w1 w2 =>
    cases w2
    cases w1 with
    | list ho hall => exact ⟨_, _, ns, rfl, rfl, ho, ints_of_wellAll ns _ hall, hlen⟩
theorem post_true (l : OpenLaw) (args : List WData) : l.row.toRowW.claim.post args (.bool true) args = true :=
  postW_of (r := l.row.toRowW) (X := (true == true))
    (show WShape.has [] (.bool true) .bool = true by first | rfl | decide | simp [WShape.has, WShape.arms, WShape.armsAll])
    (show (WTm.eq .res (.lit (.bool true))).value [] { args := args, res := some (.bool true), after := args } = some (.bool (true == true)) from w_eq_bool (w_res rfl) w_lit) rfl
theorem attach_call {l : OpenLaw} {n : Nat} {q : Program} {loose : List Str} {XP : (Str → Option Value) → Heap → Prop} {YP : World → Heap → Prop} {d : DefRec}
    (hn : l.most = some n) (hdf : d.params.defaults = [])
    (call : ∀ (w : World) (s₀ s₁ : Shared) (mg mb : Str → Option Value) (fa : Addr) (o : Obj) (pm cd doc : Value) (a : Addr) (vs : List Value) (ns : List Int),
      Ground q loose [] XP w s₀ mg mb s₁.heap → YP w s₁.heap →
      s₁.heap.get? fa = some o → o.data = .func (docDef d.name d.params d.body d.scope pm cd doc) → s₁.heap.CodeRec cd d.name → mg d.name = some (.ref fa) →
      s₁.heap.get? a = some { cls := .type "list", data := .seq vs.toArray } → IntsAre vs ns → ns.length ≤ n → s₁.gens = #[] →
      codeAny (model l.prog w) callerA (.call (.ref fa) ⟨[.ref a], []⟩) (fun r s' => r = .ok (.ret (.bool true)) ∧ OldK s₁.heap s'.heap ∧ s'.os = s₁.os ∧ AllBare s'.gens) s₁) :
    WalkO q loose XP YP l.row.toRowW d [] (fun f vs => PySem.call f vs) := by
  intro w s₀ s₁ mg mb G Y fa o pm cd doc dV kV ho hd hcd hD hmg hg args vals as hpre hlay hrd hwl hlo
  obtain rfl : dV = .none := Dflts.none hD hdf
  obtain rfl : kV = .none := Dflts.noKw hD
  obtain ⟨a, vs, ns, rfl, rfl, hobj, hints, hlen⟩ := script_of hn hpre hwl
  refine enter_call (codeAny_mono (call w s₀ s₁ mg mb fa o pm cd doc a vs ns G Y ho (fd_plain hd) hcd hmg hobj hints hlen hg) fun r s' hq => ?_)
  obtain ⟨rfl, h2, h3, h4⟩ := hq
  exact ⟨.inl ⟨.bool true, .bool true, [], rfl, fun _ => rfl, .bool true, post_true l _, fun _ => ⟨List.Pairwise.nil, fun _ hm => (nomatch hm)⟩⟩, h2, h3, h4⟩
section
variable {prog : Program} {w : World} {A : Around} {E : Value → Shared → Prop} {s : Shared} {K : Frag}
end
end Att
namespace L2
open PySem PySem.Spec PyProof.Rows
theorem vals_ints : ∀ {vs : List Value} {ns : List Int}, IntsAre vs ns → Vals (ns.map V.int) vs
  | _, _, .nil => .nil
  | _, _, .cons n t h => .cons ⟨t, rfl⟩ (vals_ints h)
def Only (H : Hp) : Prop := ∀ b, H b = none ∨ ∃ o xs, H b = some (.frz o (.lst xs))
theorem law_call {P : Program} {w : World} {K : PySem.W.Frag} {mg mb : Str → Option Value} {CX : CXT} {k : Nat} {fa a : Addr} {fd : FuncData} {x : Str} {sp : Sp} {s₁ : Shared} {vs : List Value} {ns : List Int}
    (KX : K.In s₁.heap) (hns : s₁.heap.Ns mainGlobals mg) (hb : s₁.heap.Ns builtinsNs mb) (hbb : ∀ x : Str, x ≠ "__name__" → mb x = bootBuiltins x) (hlim : s₁.heap.NoLimit) (hg : s₁.gens = #[])
    (ha : s₁.heap.get? a = some { cls := .type "list", data := .seq vs.toArray }) (hi : IntsAre vs ns) (hl : ns.length ≤ sizeLine) (hr : Room k callerA)
    (F : ∀ base : Heap, K.In base → base.Ns mainGlobals mg → FnOk P w K mg base CX k fa fd [x] sp) (hbind : ∀ (s : Shared) (u : Value), BindsTo s fd ⟨[u], []⟩ [(x, u)])
    (hsp : ∀ H : Hp, Only H → SqL K H a (ns.map V.int) → sp [.ref a] H (fun v _ => v = .bl true) fun _ _ _ => False)
    (hCX : ∀ H e s', CX [] H s₁ (fun _ _ _ => False) e s' → False) :
    codeAny (model P w) callerA (.call (.ref fa) ⟨[.ref a], []⟩) (fun r s' => r = .ok (.ret (.bool true)) ∧ OldK s₁.heap s'.heap ∧ s'.os = s₁.os ∧ AllBare s'.gens) s₁ := by
  have rv := vals_ints hi
  have lenV := hi.length
  have core : ∀ H : Hp, Only H → SqL K H a (ns.map V.int) → HOk P w H s₁.heap → (∀ b, H b ≠ none → b = a) → (H a ≠ none → K.lookup a = none) →
      codeAny (model P w) callerA (.call (.ref fa) ⟨[.ref a], []⟩) (fun r s' => r = .ok (.ret (.bool true)) ∧ OldK s₁.heap s'.heap ∧ s'.os = s₁.os ∧ AllBare s'.gens) s₁ := by
    intro H hO hS hok hA hK
    have base_of : ∀ {b : Addr} {o : Obj}, s₁.heap.get? b = some o → H b = none → (hidT s₁.heap H).get? b = some o := fun e n => hidT_get e n
    have noA : ∀ {b : Addr} {o : Obj} {es : Array DictEntry} {ep : Nat}, s₁.heap.get? b = some o → o.data = .dict es ep → H b = none := fun {b o es ep} e d => by
      cases q : H b with
      | none => rfl
      | some u =>
        have e' : b = a := hA b (by rw [q]; simp)
        subst e'
        rw [ha] at e; cases e
        have d' : Data.seq vs.toArray _ = Data.dict es ep := d
        cases d'
    have nsK : ∀ {b : Addr} {m : Str → Option Value}, s₁.heap.Ns b m → (hidT s₁.heap H).Ns b m := fun {b m} ⟨o, es, ep, e, d, r⟩ => ⟨o, es, ep, base_of e (noA e d), d, r⟩
    have hKb : K.In (hidT s₁.heap H) := fun b o e => base_of (KX b o e) (by
      cases q : H b with
      | none => rfl
      | some u =>
        have e' : b = a := hA b (by rw [q]; simp)
        subst e'
        rw [hK (by rw [q]; simp)] at e; cases e)
    have hM : Mod K mg (hidT s₁.heap H) := ⟨hKb, nsK hns, ⟨mb, nsK hb, hbb⟩, let ⟨mc, h1, h2⟩ := hlim; ⟨mc, nsK h1, h2⟩⟩
    have e0 : Env0 P w K mg (hidT s₁.heap H) callerA [] s₁ H := ⟨rfl, hM, fun b o e => of_hidT e, Nat.le_of_eq (hidT_size _ _), trivial, fun b hb => absurd (show b ∈ ([] : List Addr) from hb) (by simp), hok, .of_eq hg⟩
    refine codeAny_mono ((F _ hKb (nsK hns)).run callerA [] s₁ H ⟨[.ref a], []⟩ [.ref a] [.ref a] _ _ hr e0 (hbind s₁ (.ref a)) (.cons rfl .nil) (hsp H hO hS)) fun r s' h => ?_
    cases r with
    | error e => exact (hCX H e s' h).elim
    | ok fl =>
      cases fl with
      | next => exact False.elim h
      | brk => exact False.elim h
      | cont => exact False.elim h
      | ret u =>
        obtain ⟨v, H', os, bare, un, hok', r', q⟩ := h
        have q' : v = .bl true := q
        subst q'
        obtain rfl : u = Value.bool true := r'
        refine ⟨rfl, OldK.of_keep fun b o e => ?_, os, bare⟩
        cases q : H b with
        | none => exact un.keep b o e q (by intro z; exact absurd (show b ∈ ([] : List Addr) from z) (by simp)) (by simp)
        | some u =>
          rcases hO b with z | ⟨ob, xs, z⟩
          · rw [q] at z; cases z
          · have z2 := un.frzs b ob _ z
            obtain ⟨e1, _⟩ := hok b _ z
            obtain ⟨e2, _⟩ := hok' b _ z2
            rw [e] at e1; cases e1
            exact e2
  cases hk : K.lookup a with
  | some o =>
    have e := KX a o hk
    rw [ha] at e
    cases e
    refine core (fun _ => none) (fun _ => .inl rfl) (.inr ⟨_, vs.toArray, _, hk, rfl, rfl, rfl, by rw [List.size_toArray, lenV]; exact hl, by simpa using rv⟩) (fun b u z => by have z' : (none : Option HO) = some u := z; cases z') (fun b z => absurd rfl z) fun z => absurd rfl z
  | none =>
    refine core (fun b => if b = a then some (.frz { cls := .type "list", data := .seq vs.toArray } (.lst (ns.map V.int))) else none) (fun b => ?_) (.inl (.inr ⟨{ cls := .type "list", data := .seq vs.toArray }, if_pos rfl⟩)) (fun b u z => ?_) (fun b z => ?_) fun _ => hk
    · by_cases hb : b = a
      · exact .inr ⟨_, _, if_pos hb⟩
      · exact .inl (if_neg hb)
    · by_cases hb : b = a
      · have z' := (if_pos hb).symm.trans z
        cases z'
        subst hb
        exact ⟨ha, by rw [List.length_map]; exact hl, vs, _, rv, ha⟩
      · have z' := (if_neg hb).symm.trans z
        cases z'
    · by_cases hb : b = a
      · exact hb
      · exact absurd (if_neg hb) z
end L2
namespace L2
open PySem PySem.Spec PyProof.Rows
theorem walk_of {l : PySem.W.OpenLaw} {n k : Nat} {q : Program} {loose : List Str} {XP : (Str → Option Value) → Heap → Prop} {YP : World → Heap → Prop} {d : DefRec} {K : Params → PySem.W.Frag} {CX : World → CXT} {sp : World → Sp} {x : Str}
    (hn : l.most = some n) (hn2 : n ≤ sizeLine) (hdf : d.params.defaults = []) (hr : Room k callerA)
    (hY : ∀ (w : World) (h : Heap), YP w h → (K w.params).In h)
    (F : ∀ (w : World) (mg : Str → Option Value) (fa : Addr) (h : Heap), (K w.params).In h → h.Ns mainGlobals mg → mg d.name = some (.ref fa) →
      ∃ fd : FuncData, (∀ (s : Shared) (u : Value), BindsTo s fd ⟨[u], []⟩ [(x, u)]) ∧
        ∀ base : Heap, (K w.params).In base → base.Ns mainGlobals mg → FnOk l.prog w (K w.params) mg base (CX w) k fa fd [x] (sp w))
    (hsp : ∀ (w : World) (H : Hp) (a : Addr) (ns : List Int), ns.length ≤ n → Only H → SqL (K w.params) H a (ns.map V.int) → sp w [.ref a] H (fun v _ => v = .bl true) fun _ _ _ => False)
    (hCX : ∀ (w : World) (H : Hp) (s : Shared) (e : Value) (s' : Shared), CX w [] H s (fun _ _ _ => False) e s' → False) :
    PySem.W.WalkO q loose XP YP l.row.toRowW d [] (fun f vs => PySem.call f vs) := by
  refine Att.attach_call hn hdf fun w s₀ s₁ mg mb fa o pm cd doc a vs ns G Y ho hd hcd hmg hobj hints hlen hg => ?_
  have KX := hY w _ Y
  obtain ⟨fd, hb, hF⟩ := F w mg fa _ KX G.T.g hmg
  exact law_call KX G.T.g G.T.b G.T.builtins G.T.nolimit hg hobj hints (Nat.le_trans hlen hn2) hr hF hb (fun H hO hS => hsp w H a ns hlen hO hS) fun H e s' => hCX w H s₁ e s'
end L2
namespace L2
open PySem PySem.Spec PyProof.Rows
def inClass (s : Stmt) (j : Nat) : Stmt := match s with
  | .ClassDef _ _ _ body _ _ _ _ _ _ _ => body.getD j (.Pass ⟨0, 0, 0, 0⟩)
  | _ => .Pass ⟨0, 0, 0, 0⟩
def defArgs (s : Stmt) : Arguments := match s with
  | .FunctionDef _ a _ _ _ _ _ _ _ _ => a
  | _ => { posonlyargs := [], args := [], vararg := none, kwonlyargs := [], kw_defaults := [], kwarg := none, defaults := [] }
def defBody (s : Stmt) : List Stmt := match s with
  | .FunctionDef _ _ b _ _ _ _ _ _ _ => b
  | _ => []
def defScope (s : Stmt) : Scope := match s with
  | .FunctionDef _ _ _ _ _ _ sc _ _ _ => sc
  | _ => { kind := .function, names := [], isGenerator := false, isCoroutine := false }
abbrev CX0 : CXT := fun _ _ _ _ _ _ => False
abbrev E0 : XK := fun _ _ _ => False
theorem pass0 {X : Cx} : Passes CX0 X E0 := fun _ _ _ _ _ _ _ h => h.elim
structure Fun (K : PySem.W.Frag) (x qual : Str) (st : Stmt) (f : Addr) (fd : FuncData) : Prop where
  ex : ∃ (oc : Value) (od : Option Addr) (kV doc pm : Value) (an : Option Addr) (cdv ct : Value) (osl : Array (Option Value)),
    fd = PySem.W.fnOf x qual (defArgs st) (defBody st) (defScope st) .none kV doc pm an cdv ct ∧ K.lookup f = some ⟨oc, od, .func fd, osl⟩ ∧ PySem.W.codeIn K cdv qual = true
  kp : PySem.W.keepIn K (.ref f) = true
section
variable {P : Program} {w : World} {K : PySem.W.Frag} {mg : Str → Option Value} {base : Heap}
theorem Fun.ok {x qual : Str} {st : Stmt} {f : Addr} {fd : FuncData} {N ps : List Str} {k : Nat} {sp : Sp} (F : Fun K x qual st f fd) (S : FnScope N ps (defScope st)) (len : ∀ vs H Q E, sp vs H Q E → vs.length = ps.length)
    (hbody : ∀ (cdv : Value) (A : Around) (outer : List Env) (s : Shared) (H : Hp) (vs : List V) (Q : VK) (E : XK), Room k (A.deeper (envOfC qual (defScope st) s.heap.objs.size f cdv)) → sp vs H Q E →
      ∃ t, PSs (cxOf CX0 P w K mg base N qual (defScope st) f cdv A outer s H E).nox (defBody st) t ∧ t { nx := fun _ H' => Q .non H', rt := Q } (start N vs) H) : FnOk P w K mg base CX0 (k + 1) f fd ps sp := by
  obtain ⟨oc, od, kV, doc, pm, an, cdv, ct, osl, rfl, lk, hcd⟩ := F.ex
  refine fn_of lk hcd S len fun A outer s H vs Q E hr hsp => ?_
  obtain ⟨t, h, q⟩ := hbody cdv A outer s H vs Q E hr hsp
  exact ⟨t, h.nox, q⟩
theorem Fun.binds {x qual : Str} {st : Stmt} {f : Addr} {fd : FuncData} {ps : List Str} (F : Fun K x qual st f fd)
    (h : ∀ (kV doc pm : Value) (an : Option Addr) (cdv ct : Value) (us : List Value), us.length = ps.length → bindArgs (PySem.W.fnOf x qual (defArgs st) (defBody st) (defScope st) .none kV doc pm an cdv ct) ⟨us, []⟩ = pure (ps.zip us)) : Binds K fd ps [] := by
  obtain ⟨oc, od, kV, doc, pm, an, cdv, ct, osl, rfl, lk, hcd⟩ := F.ex
  exact .all (h kV doc pm an cdv ct)
theorem fun_mk {x qual : Str} {st : Stmt} {f : Addr} {oc : Value} {od an : Option Addr} {osl : Array (Option Value)} {kV doc pm cdv ct : Value} (l : K.lookup f = some ⟨oc, od, .func (PySem.W.fnOf x qual (defArgs st) (defBody st) (defScope st) .none kV doc pm an cdv ct), osl⟩)
    (c : PySem.W.codeIn K cdv qual = true) (k : PySem.W.keepIn K (.ref f) = true) : Fun K x qual st f (PySem.W.fnOf x qual (defArgs st) (defBody st) (defScope st) .none kV doc pm an cdv ct) := ⟨⟨oc, od, kV, doc, pm, an, cdv, ct, osl, rfl, l, c⟩, k⟩
end
theorem hu_of {A : Around} {k : Nat} (hr : Room k A) : A.units + 1 < cLine := Nat.lt_of_le_of_lt (Nat.add_le_add_left (by decide : 1 ≤ 64) _) hr.units
section
variable {X : Cx}
theorem pv (i : Nat) {x : Str} {pos : Pos} (hN : X.N[i]? = some x := by rfl) (hv : Vis X.env.scope x := by first | exact Or.inl rfl | exact Or.inr (Or.inl rfl) | exact Or.inr (Or.inr rfl)) (hd : (x == ("__debug__" : Str)) = false := by decide)
    (hcd : (x == ("__classdict__" : Str)) = false := by decide) : PE X (.Name x pos) (tVar i) := pe_var hN hv hd hcd
end
theorem iteF {A B : Prop} (h : B) : if false = true then A else B := by
  rw [if_neg Bool.false_ne_true]
  exact h
theorem iteT {A B : Prop} (h : A) : if true = true then A else B := by
  rw [if_pos rfl]
  exact h
theorem ite2 {c A B : Prop} [Decidable c] (h1 : c → A) (h2 : ¬ c → B) : if c then A else B := by
  by_cases h : c
  · rw [if_pos h]
    exact h1 h
  · rw [if_neg h]
    exact h2 h
theorem iteNS {c A B : Prop} [Decidable c] (hc : c) (h : B) : if (!decide c) = true then A else B := by
  rw [decide_eq_true hc]
  exact iteF h
def Same (H H' : Hp) : Prop := ∀ b o, H b = some o → H' b = some o
theorem Same.refl (H : Hp) : Same H H := fun _ _ h => h
theorem Same.trans {H H1 H2 : Hp} (a : Same H H1) (b : Same H1 H2) : Same H H2 := fun c o h => b c o (a c o h)
theorem Same.free {H H' : Hp} (e : Same H H') {l : Addr} (h : H' l = Option.none) : H l = Option.none := by
  cases q : H l with
  | none => rfl
  | some o =>
    rw [e l o q] at h
    cases h
theorem Same.seq {K : PySem.W.Frag} {H H' : Hp} {a : Addr} {xs : List V} (e : Same H H') (h : SqL K H a xs) : SqL K H' a xs := by
  rcases h with (h | ⟨o, h⟩) | h
  · exact .inl (.inl (e _ _ h))
  · exact .inl (.inr ⟨o, e _ _ h⟩)
  · exact .inr h
end L2
set_option maxRecDepth 100000
namespace L2
open PySem PySem.Spec PyProof.Rows
theorem Inv.turnedN {X : Cx} {pins : List (Addr × Obj)} {σ : St} {H : Hp} {s : Shared} {h' : Heap} {t' : Nat} {ch : List Addr} (I : Inv X pins σ H s) (hf : ∀ b ∈ ch, FpOk X pins H b)
    (k : ∀ b o, b ∉ ch → s.heap.get? b = some o → h'.get? b = some o) : Inv X pins σ H { s with heap := h', toks := t' } := by
  refine I.step (g' := s.gens) (d' := s.drawn) (ch := ch) (fun b hb => ⟨(hf b hb).2.2.2.1, (hf b hb).2.1, (hf b hb).2.2.2.2.1, (hf b hb).2.2.2.2.2⟩) (fun b o _ _ hc e _ => k b o hc e) (fun b o _ _ hc e _ => ⟨o.slots, k b o hc e⟩) (fun _ _ _ _ n => n)
    (fun b o hc e => ⟨o, k b o hc e⟩) (fun _ _ e => e) (fun _ _ _ e => e) (fun b ps e => ⟨#[], by rw [e]; simp⟩) (fun m hm => ?_) (fun b u e => ?_) I.bare
  · obtain ⟨o, es, ep, ho, r⟩ := hm
    exact ⟨o, es, ep, k _ o (fun z => (hf _ z).2.1 rfl) ho, r⟩
  · refine (I.hok b u e).stay (fun c v hc q => k c v (fun z => ?_) q) (fun _ q => q) fun _ _ q => q
    have n := (hf c z).1
    rcases hc with w | w
    · rw [w, e] at n; cases n
    · rw [w] at n; cases n
theorem Inv.track {X : Cx} {pins : List (Addr × Obj)} {σ : St} {H : Hp} {s : Shared} {T : Addr} {o : HO} (I : Inv X pins σ H s) (hf : FpOk X pins H T) (hs : X.s₀.heap.objs.size ≤ T) (new : ObjOk X.prog X.w (upd H T o) s.heap T o) : Inv X pins σ (upd H T o) s := by
  have hn := hf.1
  have := I.step (h' := s.heap) (H' := upd H T o) (g' := s.gens) (d' := s.drawn) (t' := s.toks) (ch := [T]) (fun b hb => by
      have e : b = T := by simpa using hb
      subst e
      exact ⟨.inr hs, hf.2.1, hf.2.2.2.2.1, hf.2.2.2.2.2⟩) (fun b o _ _ _ e _ => e) (fun b o _ _ _ e _ => ⟨o.slots, e⟩) (fun b o hb _ n => by rw [upd_ne (by simpa using hb)]; exact n)
    (fun b o _ e => ⟨o, e⟩) (fun b xs e => by rw [upd_ne (ne_of_none e hn)]; exact e) (fun b ob xs e => by rw [upd_ne (ne_of_none e hn)]; exact e) (fun b ps e => ⟨#[], by rw [upd_ne (ne_of_none e hn), e]; simp⟩) (fun m hm => hm)
    (fun b u e => by
      by_cases hb : b = T
      · subst hb; rw [upd_same] at e; cases e; exact new
      · rw [upd_ne hb] at e
        exact (I.hok b u e).stay (fun c v _ q => q) (fun c q => by rw [upd_ne (ne_of_none q hn)]; exact q) fun c xs q => by rw [upd_ne (ne_of_none q hn)]; exact q) I.bare
  exact this
end L2
namespace L2
open PySem PySem.Spec PyProof.Rows
abbrev noX : Value → Shared → Prop := fun _ _ => False
section
variable {prog : Program} {w : World} {A : Around} {R : Result → Shared → Prop} {s : Shared}
theorem compLoop_gen {elt target iter : Expr} {ifs : List Expr} {scope : Scope} {pos : Pos} {it acc : Value} {env : Env} (I : Nat → Shared → Prop)
    (turn : ∀ n s, I n s → wpAny (model prog w) A (pyNext it) (fun r s₁ => match r with
      | none => R (.ok .next) s₁
      | some v => wpAny (model prog w) A (letOwnedTupleGo target it v) (fun _ s₂ => wpAny (model prog w) A (assign target env v) (fun _ s₃ =>
          wpAny (model prog w) A (forIn ifs true fun c r => if r = true then do let ok ← isTrue c env (eval c env); pure (ForInStep.yield ok) else pure (ForInStep.yield r)) (fun ok s₄ =>
            if ok = true then wpAny (model prog w) A (eval elt env) (fun x s₅ => wpAny (model prog w) A (call (.builtin "list.append") [acc, x]) (fun _ s₆ => ∃ m, m < n ∧ I m s₆) noX s₅) noX s₄
            else ∃ m, m < n ∧ I m s₄) noX s₃) noX s₂) noX s₁) noX s)
    (n : Nat) (h : I n s) : codeAny (model prog w) A (.compLoop (.ListComp elt [⟨target, iter, ifs, 0⟩] scope pos) 0 it acc env) R s := by
  refine codeAny_loop rfl I (fun n s hI => ?_) n h
  show wpAny _ A ((compTurn (.ListComp elt [⟨target, iter, ifs, 0⟩] scope pos) 0 it acc env).onRaise (fun x => do noteFrame x env; theTreesLotGoes x)) _ _ s
  refine wpAny_noted ?_
  rw [compTurn_list]
  refine wpAny_bind (wpAny_standAt (wpAny_bind (wpAny_mono (turn n s hI) (fun r s₁ h₁ => ?_) fun _ _ h' => h'.elim)))
  cases r with
  | none => exact wpAny_pure h₁
  | some v =>
    refine wpAny_bind (wpAny_mono h₁ (fun _ s₂ h₂ => ?_) fun _ _ h' => h'.elim)
    refine wpAny_bind (wpAny_mono h₂ (fun _ s₃ h₃ => wpAny_bind (wpAny_mono h₃ (fun ok s₄ h₄ => ?_) fun _ _ h' => h'.elim)) fun _ _ h' => h'.elim)
    cases ok with
    | false => exact wpAny_pure ⟨rfl, h₄⟩
    | true =>
      exact wpAny_bind (wpAny_bind (wpAny_mono h₄ (fun x s₅ h₅ => wpAny_bind (wpAny_mono h₅ (fun _ s₆ h₆ => wpAny_pure (wpAny_pure ⟨rfl, h₆⟩)) fun _ _ h' => h'.elim)) fun _ _ h' => h'.elim))
end
theorem newEnv_comp {M : Model} {A : Around} {E : Value → Shared → Prop} {s : Shared} {scope : Scope} {globals : Addr} {cl : List (Str × Addr)} {qual : Str} {env : Env} {Q : Env → Shared → Prop}
    (h : Q (newEnv scope s.heap.objs.size globals (cellsFrom (s.heap.objs.size + 1) scope.names cl) qual none .none (some env) builtinsNs) { s with heap := pushCells (s.heap.push { cls := .type "dict", data := .dict #[] }) scope.names }) :
    wpAny M A (newFunctionEnv scope globals cl [] qual none .none (some env)) Q E s := by
  simp only [newFunctionEnv, Option.isSome_some, if_true]
  refine wpAny_bind (wpAny_alloc ?_)
  refine wpAny_bind (wpAny_layCells _ (fun name kind cells => by cases hkc : kind == NameKind.cell <;> simp [hkc]) _ _ _ _ ?_)
  rw [show ({ s with heap := s.heap.push { cls := .type "dict", data := .dict #[] } } : Shared).heap.objs.size = s.heap.objs.size + 1 from Heap.size_push ..]
  refine wpAny_bind ?_
  rw [List.forIn_nil]
  exact wpAny_pure (wpAny_pure h)
theorem closure_go {env : Env} (f : Str × NameKind → List (Str × Addr) → Sem (ForInStep (List (Str × Addr))))
    (hf : ∀ name kind cs, f (name, kind) cs = if kind == .free then (do let a ← cellOf env name; pure (.yield ((name, a) :: cs))) else pure (.yield cs)) :
    ∀ (names : List (Str × NameKind)) (cs : List (Str × Addr)), (∀ x ∈ names, x.2 = .free → ∃ c, env.cells.lookup x.1 = some c) →
      ∃ cl, forIn names cs f = pure cl ∧ (∀ p ∈ cl, p ∈ cs ∨ env.cells.lookup p.1 = some p.2) ∧ (∀ p ∈ cs, p ∈ cl) ∧ ∀ x ∈ names, x.2 = .free → ∃ c, (x.1, c) ∈ cl
  | [], cs, _ => ⟨cs, by rw [List.forIn_nil], fun _ h => .inl h, fun _ h => h, fun _ h => nomatch h⟩
  | (name, kind) :: r, cs, hc => by
    have hr : ∀ x ∈ r, x.2 = .free → ∃ c, env.cells.lookup x.1 = some c := fun x hx => hc x (List.mem_cons_of_mem _ hx)
    by_cases hk : kind = .free
    · subst hk
      obtain ⟨c, e⟩ := hc (name, .free) List.mem_cons_self rfl
      obtain ⟨cl, h1, h2, h3, h4⟩ := closure_go f hf r ((name, c) :: cs) hr
      refine ⟨cl, ?_, fun p hp => ?_, fun p hp => h3 p (List.mem_cons_of_mem _ hp), fun x hx hf' => ?_⟩
      · rw [List.forIn_cons, hf]
        show ((if (NameKind.free == NameKind.free) = true then _ else _) >>= _) = _
        rw [if_pos (by decide)]
        unfold cellOf
        rw [e]
        exact h1
      · rcases h2 p hp with z | z
        · rcases List.mem_cons.mp z with z | z
          · subst z; exact .inr e
          · exact .inl z
        · exact .inr z
      · rcases List.mem_cons.mp hx with z | z
        · subst z; exact ⟨c, h3 _ List.mem_cons_self⟩
        · exact h4 x z hf'
    · obtain ⟨cl, h1, h2, h3, h4⟩ := closure_go f hf r cs hr
      refine ⟨cl, ?_, h2, h3, fun x hx hf' => ?_⟩
      · rw [List.forIn_cons, hf, if_neg (by simpa using hk)]
        exact h1
      · rcases List.mem_cons.mp hx with z | z
        · subst z; exact absurd hf' hk
        · exact h4 x z hf'
theorem closure_ok {env : Env} {scope : Scope} (hc : ∀ x ∈ scope.names, x.2 = .free → ∃ c, env.cells.lookup x.1 = some c) :
    ∃ cl, closureFor scope env = pure cl ∧ (∀ p ∈ cl, env.cells.lookup p.1 = some p.2) ∧ ∀ x ∈ scope.names, x.2 = .free → ∃ c, (x.1, c) ∈ cl := by
  obtain ⟨cl, h1, h2, _, h4⟩ := closure_go (env := env) (fun x cs => if x.2 == .free then (do let a ← cellOf env x.1; pure (.yield ((x.1, a) :: cs))) else pure (.yield cs)) (fun _ _ _ => rfl) scope.names [] hc
  refine ⟨cl, ?_, fun p hp => (h2 p hp).elim (fun z => nomatch z) id, h4⟩
  unfold closureFor
  rw [← h1]
  show (forIn scope.names [] _ >>= fun cs => pure cs) = _
  have e : ∀ (m : Sem (List (Str × Addr))), (m >>= fun cs => pure cs) = m := fun m => bind_pure m
  first
    | exact e _
    | (rw [e]; congr 1; funext x cs; obtain ⟨n, k⟩ := x; cases hk : k == NameKind.free <;> simp [hk])
theorem lookup_of_mem {α : Type} : ∀ {l : List (Str × α)} {x : Str} {c : α}, (x, c) ∈ l → ∃ d, l.lookup x = some d
  | (k, v) :: r, x, c, h => by
    rw [List.lookup_cons]
    cases hb : x == k with
    | true => exact ⟨v, rfl⟩
    | false =>
      rcases List.mem_cons.mp h with e | h
      · cases e; simp at hb
      · exact lookup_of_mem h
theorem cellsFrom_mem : ∀ (names : List (Str × NameKind)) (n : Nat) (acc : List (Str × Addr)) (p : Str × Addr), p ∈ cellsFrom n names acc → p ∈ acc ∨ (n ≤ p.2 ∧ (p.1, NameKind.cell) ∈ names)
  | [], _, _, _, h => .inl h
  | (y, k) :: r, n, acc, p, h => by
    unfold cellsFrom at h
    split at h
    · rename_i hk
      have ek : k = .cell := by simpa using hk
      rcases cellsFrom_mem r (n + 1) _ p h with z | ⟨z1, z2⟩
      · rcases List.mem_cons.mp z with z | z
        · subst z; subst ek; exact .inr ⟨Nat.le_refl _, List.mem_cons_self⟩
        · exact .inl z
      · exact .inr ⟨by omega, List.mem_cons_of_mem _ z2⟩
    · rcases cellsFrom_mem r n acc p h with z | ⟨z1, z2⟩
      · exact .inl z
      · exact .inr ⟨z1, List.mem_cons_of_mem _ z2⟩
theorem cellsFrom_inj : ∀ (names : List (Str × NameKind)) (n : Nat) (acc : List (Str × Addr)), (∀ p ∈ acc, p.2 < n) → (∀ x y c, (x, c) ∈ acc → (y, c) ∈ acc → x = y) →
    ∀ x y c, (x, c) ∈ cellsFrom n names acc → (y, c) ∈ cellsFrom n names acc → x = y
  | [], _, _, _, h => h
  | (z, k) :: r, n, acc, hlt, h => by
    unfold cellsFrom
    split
    · refine cellsFrom_inj r (n + 1) _ (fun p hp => ?_) (fun x y c h1 h2 => ?_)
      · rcases List.mem_cons.mp hp with e | hp
        · subst e; exact Nat.lt_succ_self _
        · exact Nat.lt_succ_of_lt (hlt p hp)
      · rcases List.mem_cons.mp h1 with e1 | h1 <;> rcases List.mem_cons.mp h2 with e2 | h2
        · cases e1; cases e2; rfl
        · cases e1; exact absurd (hlt _ h2) (Nat.lt_irrefl _)
        · cases e2; exact absurd (hlt _ h1) (Nat.lt_irrefl _)
        · exact h x y c h1 h2
    · exact cellsFrom_inj r n acc hlt h
theorem cellsFrom_old : ∀ (names : List (Str × NameKind)) (n : Nat) (acc : List (Str × Addr)) {x : Str}, (∀ y ∈ names, y.2 = .cell → y.1 ≠ x) → (cellsFrom n names acc).lookup x = acc.lookup x
  | [], _, _, _, _ => rfl
  | (z, k) :: r, n, acc, x, h => by
    unfold cellsFrom
    have hr : ∀ y ∈ r, y.2 = .cell → y.1 ≠ x := fun y hy => h y (List.mem_cons_of_mem _ hy)
    split
    · rename_i hk
      rw [cellsFrom_old r (n + 1) _ hr, List.lookup_cons]
      have : (x == z) = false := by
        have := h (z, k) List.mem_cons_self (by simpa using hk)
        simpa using Ne.symm this
      rw [this]
    · exact cellsFrom_old r n acc hr
theorem pushCells_cells : ∀ (names : List (Str × NameKind)) (h : Heap) (acc : List (Str × Addr)), (∀ p ∈ acc, ∃ v, h.IsCell p.2 v) → ∀ p ∈ cellsFrom h.objs.size names acc, ∃ v, (pushCells h names).IsCell p.2 v
  | [], _, _, hc => hc
  | (z, k) :: r, h, acc, hc => by
    unfold cellsFrom pushCells
    split
    · have := pushCells_cells r (h.push { cls := .type "cell", data := .cell none }) ((z, h.objs.size) :: acc) (fun p hp => by
        rcases List.mem_cons.mp hp with e | hp
        · subst e; exact ⟨none, _, Heap.get?_push_size _ rfl, rfl⟩
        · obtain ⟨v, q⟩ := hc p hp
          exact ⟨v, q.keeps fun b o e => Heap.get?_push_of_some _ e⟩)
      rwa [Heap.size_push] at this
    · exact pushCells_cells r h acc hc
def cxComp (X : Cx) (scope : Scope) (N' : List Str) (cells : List (Str × Addr)) (C : Addr) (s : Shared) (H : Hp) (fp : List Addr) : Cx where
  prog := X.prog
  w := X.w
  K := X.K
  mg := X.mg
  base := X.base
  A := X.A
  N := N'
  s₀ := s
  H₀ := H
  env := compEnvC scope cells C X.env
  outer := X.stack
  stack := X.stack
  ex := fp
  fn := fun x => decide (scope.names.lookup x = some .cell)
  calm := X.calm
  pn := []
  xe := fun _ _ => False
def isFreeIn (scope : Scope) (x : Str) : Bool := scope.names.any fun y => y.1 == x && y.2 == .free
def isCellIn (scope : Scope) (x : Str) : Bool := scope.names.any fun y => y.1 == x && y.2 == .cell
def compCheck (sc : Scope) (N : List Str) (scope : Scope) (nT : Nat) (js : List Nat) (N' : List Str) : Bool :=
  scope.kind == .function && decide (N'.length = nT + js.length) &&
  scope.names.all (fun x => (x.2 != .local || scope.names.lookup x.1 == some .local) && (x.2 != .free || ((sc.names.lookup x.1 == some .cell || sc.names.lookup x.1 == some .free) && scope.names.lookup x.1 == some .free))) &&
  (js.zipIdx.all fun (j, i) => match N'[nT + i]?, N[j]? with
    | some x, some y => x == y && isFreeIn scope x && !(isCellIn scope x)
    | _, _ => false)
structure CompScope (X : Cx) (scope : Scope) (nT : Nat) (js : List Nat) (N' : List Str) : Prop where
  kind : scope.kind = .function
  len : N'.length = nT + js.length
  loc : ∀ x ∈ scope.names, x.2 = .local → scope.names.lookup x.1 = some .local
  free : ∀ x ∈ scope.names, x.2 = .free → (X.env.kindOf x.1 = some .cell ∨ X.env.kindOf x.1 = some .free)
  frl : ∀ x ∈ scope.names, x.2 = .free → scope.names.lookup x.1 = some .free
  cap : ∀ (i j : Nat), js[i]? = some j → ∃ x, N'[nT + i]? = some x ∧ X.N[j]? = some x ∧ (x, NameKind.free) ∈ scope.names ∧ ∀ y ∈ scope.names, y.2 = .cell → y.1 ≠ x
theorem compScope_of {X : Cx} {sc : Scope} {N : List Str} {scope : Scope} {nT : Nat} {js : List Nat} {N' : List Str} (hsc : X.env.scope = sc) (hN : X.N = N) (h : compCheck sc N scope nT js N' = true) : CompScope X scope nT js N' := by
  unfold compCheck at h
  simp only [Bool.and_eq_true, decide_eq_true_eq, List.all_eq_true, beq_iff_eq] at h
  obtain ⟨⟨⟨h1, h2⟩, h3⟩, h4⟩ := h
  refine ⟨h1, h2, fun x hx hl => ?_, fun x hx hf => ?_, fun x hx hf => ?_, fun i j e => ?_⟩
  · have := (h3 x hx).1
    simp only [hl, bne_self_eq_false, Bool.false_or, beq_iff_eq] at this
    exact this
  · have := (h3 x hx).2
    simp only [hf, bne_self_eq_false, Bool.false_or, Bool.or_eq_true, Bool.and_eq_true, beq_iff_eq] at this
    show X.env.scope.names.lookup x.1 = _ ∨ X.env.scope.names.lookup x.1 = _
    rw [hsc]
    exact this.1
  · have := (h3 x hx).2
    simp only [hf, bne_self_eq_false, Bool.false_or, Bool.or_eq_true, Bool.and_eq_true, beq_iff_eq] at this
    exact this.2
  · have m : (j, i) ∈ js.zipIdx := by
      rw [List.mem_zipIdx_iff_getElem?]
      exact e
    have q := h4 (j, i) m
    rw [hN]
    revert q
    dsimp only
    cases e1 : N'[nT + i]? with
    | none => intro q; cases q
    | some x =>
      cases e2 : N[j]? with
      | none => intro q; cases q
      | some y =>
        intro q
        simp only [Bool.and_eq_true, beq_iff_eq, Bool.not_eq_true'] at q
        obtain ⟨⟨q1, q2⟩, q3⟩ := q
        subst q1
        refine ⟨x, rfl, rfl, ?_, fun y hy hc hxy => ?_⟩
        · unfold isFreeIn at q2
          obtain ⟨z, hz, hz2⟩ := List.any_eq_true.mp q2
          simp only [Bool.and_eq_true, beq_iff_eq] at hz2
          obtain ⟨a, b⟩ := z
          obtain ⟨rfl, rfl⟩ := hz2
          exact hz
        · have : isCellIn scope x = true := List.any_eq_true.mpr ⟨y, hy, by simp [hxy, hc]⟩
          rw [q3] at this; cases this
def capSt (nT : Nat) (js : List Nat) (σ : St) : St := List.replicate nT none ++ js.map fun j => (σ[j]?).join
def PIfs (X : Cx) (ifs : List Expr) (t : TT) : Prop :=
  ∀ (pins : List (Addr × Obj)) (s : Shared) (σ : St) (H : Hp) (Q : Bool → Hp → Prop), Inv X pins σ H s → t σ H Q →
    wpAny (model X.prog X.w) X.A (forIn ifs true fun c r => if r = true then do let ok ← isTrue c X.env (eval c X.env); pure (ForInStep.yield ok) else pure (ForInStep.yield r)) (TP X pins σ Q) X.xe s
def tYes : TT := fun _ H Q => Q true H
theorem pif_nil {X : Cx} : PIfs X [] tYes := fun pins s σ H Q I h => by rw [List.forIn_nil]; exact wpAny_pure ⟨H, I, h⟩
theorem pif_one {X : Cx} {c : Expr} {t : TT} (hc : PT X c t) : PIfs X [c] t := fun pins s σ H Q I h => by
  rw [List.forIn_cons]
  rw [if_pos rfl]
  refine wpAny_bind (wpAny_bind (thn (hc pins s σ H Q I h) fun b s1 q => wpAny_pure ?_))
  show wpAny _ _ (forIn [] b _) _ _ _
  rw [List.forIn_nil]
  exact wpAny_pure q
def compRd (nT : Nat) (js : List Nat) (g : TG) (tt : TT) (te : TE) (σ : St) (F : Addr → Hp → Prop) : It → Hp → Prop := fun J H1 => ∀ l, H1 l = none →
  ∃ W : Nat → Nat → St → Hp → Prop, (∃ m, W 0 m (capSt nT js σ) (upd H1 l (.lst []))) ∧ ∀ i m σ' H', W i m σ' H' →
    (J.stop i H' ∧ F l H') ∨ (J.go i H' ∧ ∀ x H2, J.yld i H' x H2 → g x σ' H2 fun σ3 H3 => ∃ (N : Hp → Prop) (NV : V → Hp → Prop),
      (∀ H4, N H4 → ∃ m', m' < m ∧ W (i + 1) m' σ3 H4) ∧ (∀ v H5, NV v H5 → ∃ ys, H5 l = some (.lst ys) ∧ ys.length < sizeLine ∧ ∃ m', m' < m ∧ W (i + 1) m' σ3 (upd H5 l (.lst (ys ++ [v])))) ∧
      tt σ3 H3 fun b H4 => if b = true then te σ3 H4 NV else N H4)
section
variable {X : Cx} {pins : List (Addr × Obj)} {σ : St} {H : Hp} {s : Shared} {elt tg iter : Expr} {ifs : List Expr} {scope : Scope} {pos : Pos} {wi : TI} {nT : Nat} {js : List Nat} {N' : List Str} {g : TG} {tt : TT} {te : TE}
def OwnC (X : Cx) (pins : List (Addr × Obj)) (H : Hp) (C : Addr) (s : Shared) : Prop := FpOk X pins H C ∧ X.s₀.heap.objs.size ≤ C ∧ ∃ m, s.heap.Ns C m
theorem comp_run {use : Option (Value → Sem Unit)} {Q : Value → Shared → Prop} {F : Addr → Hp → Prop} {cpos : Pos} {Cc : Cx → Prop} (hc : ∀ cells C s H fp, Cc (cxComp X scope N' cells C s H fp)) (S : CompScope X scope nT js N') (hi : PI0 Cc X tg iter wi)
    (hg : ∀ cells C s H fp, PG (cxComp X scope N' cells C s H fp) tg g) (ht : ∀ cells C s H fp, PIfs (cxComp X scope N' cells C s H fp) ifs tt) (he : ∀ cells C s H fp, PE (cxComp X scope N' cells C s H fp) elt te)
    (I : Inv X pins σ H s) (h : wi σ H (compRd nT js g tt te σ F))
    (fin : ∀ (l C : Addr) (s' : Shared) (H' : Hp), Inv X pins σ H' s' → OwnC X pins H' C s' → F l H' → compPost (model X.prog X.w) X.A X.xe use Q (.ref l) C (.ok .next) s')
    (hs : ∀ x, foldedSetIterable iter X.env x = pure x := by intro _; rfl) :
    wpAny (model X.prog X.w) X.A (comprehension (.ListComp elt [⟨tg, iter, ifs, 0⟩] scope pos) scope X.env cpos (newList []) false (eval iter X.env) use) Q X.xe s := by
  have hasC : ∀ x ∈ scope.names, x.2 = .free → ∃ c, X.env.cells.lookup x.1 = some c := fun x hx hf => I.ok.has x.1 (S.free x hx hf)
  obtain ⟨cl, hcl, hclm, hclf⟩ := closure_ok (env := X.env) hasC
  refine wpAny_comprehension_free rfl hs hcl S.kind S.loc (thn (hi pins s σ H _ I h) fun v s1 h1 => thn h1 fun itv s2 h2 => ?_)
  obtain ⟨it, fp, tn, J, H2, e, I2, T, st2, f2, rd⟩ := h2
  subst e
  have I3 : Inv X pins σ (upd H2 s2.heap.objs.size (.lst [])) { s2 with heap := s2.heap.push { cls := .type "list", data := .seq ([] : List Value).toArray } } := I2.lnew (t' := s2.toks) (its := []) .nil (Nat.zero_le _)
  refine wpAny_newObj_type ?_ (by show 0 ≤ sizeLine; exact Nat.zero_le _)
  obtain ⟨W, ⟨m0, w0⟩, turn⟩ := rd s2.heap.objs.size (I2.hok.fresh (Nat.le_refl _))
  have hl2 : H2 s2.heap.objs.size = none := I2.hok.fresh (Nat.le_refl _)
  generalize hl : s2.heap.objs.size = l at I3 w0 turn hl2 ⊢
  generalize hs3 : ({ s2 with heap := s2.heap.push { cls := .type "list", data := .seq ([] : List Value).toArray } } : Shared) = s3 at I3 ⊢
  have z3 : s3.heap.objs.size = l + 1 := by rw [← hs3, ← hl]; exact Heap.size_push ..
  have k23 : ∀ b o, s2.heap.get? b = some o → s3.heap.get? b = some o := fun b o e => by rw [← hs3]; exact Heap.get?_push_of_some _ e
  refine newEnv_comp ?_
  generalize hC : s3.heap.objs.size = C
  generalize hcells : cellsFrom (C + 1) scope.names cl = cells
  have hz4 : (s3.heap.push { cls := .type "dict", data := .dict #[] }).objs.size = C + 1 := by rw [Heap.size_push, hC]
  have k34 : ∀ b o, s3.heap.get? b = some o → (pushCells (s3.heap.push { cls := .type "dict", data := .dict #[] }) scope.names).get? b = some o := fun b o e => pushCells_keeps _ _ b o (Heap.get?_push_of_some _ e)
  have nsC : (pushCells (s3.heap.push { cls := .type "dict", data := .dict #[] }) scope.names).Ns C (fun _ => none) := by
    have := (Heap.Ns.new s3.heap (.type "dict")).keeps (pushCells_keeps scope.names _)
    rwa [hC] at this
  generalize hh4 : pushCells (s3.heap.push { cls := .type "dict", data := .dict #[] }) scope.names = h4 at k34 nsC
  have memC : ∀ x c, cells.lookup x = some c → (X.env.cells.lookup x = some c ∧ @LT.lt Nat _ c C) ∨ (@LE.le Nat _ (C + 1) c ∧ (x, NameKind.cell) ∈ scope.names) := fun x c e => by
    have m := mem_of_lookup e
    rw [← hcells] at m
    rcases cellsFrom_mem _ _ _ _ m with z | z
    · have q := hclm _ z
      obtain ⟨v, iz⟩ := I3.cell x c q
      exact .inl ⟨q, by have := iz.lt; rw [hC] at this; exact this⟩
    · exact .inr z
  have cellsOk : ∀ x c, cells.lookup x = some c → ∃ v, h4.IsCell c v := fun x c e => by
    have m := mem_of_lookup e
    have := pushCells_cells scope.names (s3.heap.push { cls := .type "dict", data := .dict #[] }) cl (fun p hp => by
      obtain ⟨v, iz⟩ := I3.cell p.1 p.2 (hclm p hp)
      exact ⟨v, iz.keeps fun b o e => Heap.get?_push_of_some _ e⟩)
    rw [hz4, hcells, hh4] at this
    exact this _ m
  show codeAny (model X.prog X.w) X.A (.compStart _ 0 (.ref it) (.ref l) (compEnvC scope cells C X.env)) (compPost (model X.prog X.w) X.A X.xe use Q (.ref l) C) { s3 with heap := h4 }
  have fpLt : ∀ b ∈ fp, @LT.lt Nat _ b l := fun b hb => by
    obtain ⟨o, e, _⟩ := T.obj _ _ st2 b hb
    rw [← hl]; exact Heap.lt_size e
  have fpStk : ∀ b ∈ fp, b ∉ frs X.stack := fun b hb z => (List.mem_cons.mp (I2.stkSub b z)).elim (f2 b hb).2.1 (f2 b hb).2.2.1
  have okC : (cxComp X scope N' cells C s3 (upd H2 l (.lst [])) fp).Ok := by
    refine ⟨I3.ok.mod, S.kind, I3.ok.glob, I3.ok.blt, Nat.le_of_eq hC, fun x y c e1 e2 => ?_, fun x hx => ?_, fun x c hf e => ?_, I3.ok.hd, I3.ok.frames, .inl rfl, fun b hb => ⟨?_, fun x c e z => ?_⟩, I3.bs, Nat.le_trans I3.ok.bsz I3.sz, fun b o e hb => ?_, fpStk, I3.stack, I3.stkFree⟩
    · have e1' := mem_of_lookup (show cells.lookup x = some c from e1)
      have e2' := mem_of_lookup (show cells.lookup y = some c from e2)
      rw [← hcells] at e1' e2'
      refine cellsFrom_inj scope.names (C + 1) cl (fun p hp => ?_) (fun x y c h1 h2 => I3.ok.inj x y c (hclm _ h1) (hclm _ h2)) x y c e1' e2'
      obtain ⟨v, iz⟩ := I3.cell p.1 p.2 (hclm p hp)
      have h1 : @LT.lt Nat _ p.2 s3.heap.objs.size := iz.lt
      rw [hC] at h1
      show @LT.lt Nat _ p.2 (C + 1)
      omega
    · have hx' : (relabel scope X.env).names.lookup x = some .cell ∨ (relabel scope X.env).names.lookup x = some .free := hx
      have : ∃ k, (x, k) ∈ scope.names ∧ (k = .cell ∨ k = .free) := by
        have m : ∃ k, (x, k) ∈ (relabel scope X.env).names ∧ (k = .cell ∨ k = .free) := by
          rcases hx' with z | z
          · exact ⟨_, mem_of_lookup z, .inl rfl⟩
          · exact ⟨_, mem_of_lookup z, .inr rfl⟩
        obtain ⟨k, m, hk⟩ := m
        unfold relabel at m
        obtain ⟨⟨n, k'⟩, m', e⟩ := List.mem_map.mp m
        dsimp only at e
        split at e
        · rename_i hcond
          cases e
          simp only [Bool.and_eq_true, beq_iff_eq] at hcond
          exact ⟨k', m', .inr hcond.1.1⟩
        · cases e; exact ⟨k, m', hk⟩
      obtain ⟨k, m, hk⟩ := this
      show ∃ c, cells.lookup x = some c
      rw [← hcells]
      have key : ∃ c, (x, c) ∈ cellsFrom (C + 1) scope.names cl := by
        rcases hk with rfl | rfl
        · have gen : ∀ (names : List (Str × NameKind)) (n : Nat) (acc : List (Str × Addr)), ((x, NameKind.cell) ∈ names ∨ ∃ c, (x, c) ∈ acc) → ∃ c, (x, c) ∈ cellsFrom n names acc := by
            intro names
            induction names with
            | nil => intro n acc h; exact h.elim (fun z => nomatch z) id
            | cons y r ih =>
              intro n acc h
              obtain ⟨y, k⟩ := y
              unfold cellsFrom
              split
              · rename_i hk
                refine ih _ _ ?_
                rcases h with h | ⟨c, h⟩
                · rcases List.mem_cons.mp h with e | h
                  · cases e; exact .inr ⟨n, List.mem_cons_self⟩
                  · exact .inl h
                · exact .inr ⟨c, List.mem_cons_of_mem _ h⟩
              · rename_i hk
                refine ih _ _ ?_
                rcases h with h | h
                · rcases List.mem_cons.mp h with e | h
                  · cases e; exact absurd (show (NameKind.cell == NameKind.cell) = true by decide) hk
                  · exact .inl h
                · exact .inr h
          exact gen _ _ _ (.inl m)
        · obtain ⟨c, hc'⟩ := hclf _ m rfl
          have gen : ∀ (names : List (Str × NameKind)) (n : Nat) (acc : List (Str × Addr)), (x, c) ∈ acc → (x, c) ∈ cellsFrom n names acc := by
            intro names
            induction names with
            | nil => intro n acc h; exact h
            | cons y r ih =>
              intro n acc h
              obtain ⟨y, k⟩ := y
              unfold cellsFrom
              split
              · exact ih _ _ (List.mem_cons_of_mem _ h)
              · exact ih _ _ h
          exact ⟨c, gen _ _ _ hc'⟩
      obtain ⟨c, m⟩ := key
      exact lookup_of_mem m
    · have hf' : decide (scope.names.lookup x = some NameKind.cell) = true := hf
      have hf'' := of_decide_eq_true hf'
      rcases memC x c e with ⟨_, _⟩ | ⟨z, _⟩
      ·
        have gen : ∀ (names : List (Str × NameKind)) (n : Nat) (acc : List (Str × Addr)), names.lookup x = some .cell → C + 1 ≤ n → ∀ c, (cellsFrom n names acc).lookup x = some c → C + 1 ≤ c := by
          intro names
          induction names with
          | nil => intro n acc h; cases h
          | cons y r ih =>
            intro n acc h hn c hcc
            obtain ⟨y, k⟩ := y
            rw [List.lookup_cons] at h
            unfold cellsFrom at hcc
            have last : ∀ (names : List (Str × NameKind)) (n : Nat) (acc : List (Str × Addr)), C + 1 ≤ n → (∀ d, acc.lookup x = some d → C + 1 ≤ d) → ∀ c, (cellsFrom n names acc).lookup x = some c → C + 1 ≤ c := by
              intro names
              induction names with
              | nil => intro n acc _ h c hc; exact h c hc
              | cons y r ih =>
                intro n acc hn h c hc
                obtain ⟨y, k⟩ := y
                unfold cellsFrom at hc
                split at hc
                · refine ih (n + 1) _ (by omega) (fun d hd => ?_) c hc
                  rw [List.lookup_cons] at hd
                  split at hd
                  · cases hd; exact hn
                  · exact h d hd
                · exact ih n acc hn h c hc
            cases hb : x == y with
            | true =>
              rw [hb] at h
              cases h
              rw [if_pos (by decide)] at hcc
              refine last r (n + 1) _ (by omega) (fun d hd => ?_) c hcc
              rw [List.lookup_cons, hb] at hd
              cases hd; exact hn
            | false =>
              rw [hb] at h
              split at hcc
              · exact ih (n + 1) _ h (by omega) c hcc
              · exact ih n acc h hn c hcc
        have e' : cells.lookup x = some c := e
        rw [← hcells] at e'
        have h1 : @LE.le Nat _ (C + 1) c := gen scope.names (C + 1) cl hf'' (Nat.le_refl _) c e'
        show @LE.le Nat _ s3.heap.objs.size c
        omega
      · show @LE.le Nat _ s3.heap.objs.size c
        omega
    · have := fpLt b hb
      show @Ne Nat b C
      omega
    · subst z
      rcases memC x c e with ⟨q, _⟩ | ⟨q, _⟩
      · exact (f2 c hb).2.2.2.2.1 x c q rfl
      · have := fpLt c hb
        omega
    · rcases (f2 b hb).2.2.2.1 with z | z
      · exact I3.ok.noex b o e z
      · exact absurd (Nat.lt_of_lt_of_le (Heap.lt_size e) (Nat.le_trans I3.ok.bsz z)) (Nat.lt_irrefl _)
  have HC : ∀ c : Addr, @LE.le Nat _ C c → upd H2 l (.lst []) c = none := fun c hcc => I3.hok.fresh (show @LE.le Nat _ s3.heap.objs.size c by omega)
  have I4 : Inv (cxComp X scope N' cells C s3 (upd H2 l (.lst [])) fp) [] (capSt nT js σ) (upd H2 l (.lst [])) { s3 with heap := h4 } := by
    refine ⟨okC, rfl, I3.bare, Un.kept k34, ⟨_, nsC, fun i x v e1 e2 e3 => ?_⟩, cellsOk, HC C (Nat.le_refl _), fun x c e => ?_, (fun p hp => nomatch hp), I3.hok.kept k34, ?_⟩
    ·
      unfold capSt at e2
      by_cases hi' : i < nT
      · rw [List.getElem?_append_left (by simpa using hi'), List.getElem?_replicate] at e2
        split at e2 <;> cases e2
      · rw [List.getElem?_append_right (by simpa using hi'), List.length_replicate, List.getElem?_map] at e2
        cases ej : js[i - nT]? with
        | none => rw [ej] at e2; cases e2
        | some j =>
          rw [ej] at e2
          have e2' : (σ[j]?).join = some v := by simpa using e2
          have e2'' : σ[j]? = some (some v) := by
            cases eσ : σ[j]? with
            | none => rw [eσ] at e2'; cases e2'
            | some o => rw [eσ] at e2'; exact congrArg some e2'
          obtain ⟨y, n1, n2, n3, n4⟩ := S.cap _ _ ej
          have : nT + (i - nT) = i := by omega
          rw [this] at n1
          have exy : x = y := by
            have e1' : N'[i]? = some x := e1
            rw [n1] at e1'; exact (Option.some.inj e1').symm
          subst exy
          obtain ⟨m, hn, hlk⟩ := I3.loc
          have kinds := S.free _ n3 rfl
          have vis : Vis X.env.scope x := by
            rcases kinds with k | k
            · exact .inr (.inl k)
            · exact .inr (.inr k)
          obtain ⟨u, r, lk⟩ := hlk j x v n2 e2'' vis
          refine ⟨u, r, ?_⟩
          rcases lk with ⟨k, _⟩ | ⟨k, c, ec, iz⟩
          · rcases kinds with k' | k'
            · rw [k] at k'; cases k'
            · rw [k] at k'; cases k'
          · refine .inr ⟨?_, c, ?_, iz.keeps k34⟩
            · show (relabel scope X.env).names.lookup x = some .cell ∨ (relabel scope X.env).names.lookup x = some .free
              have e3' : Vis (relabel scope X.env) x := e3
              rcases e3' with z | z | z
              ·
                exfalso
                have m := mem_of_lookup z
                unfold relabel at m
                obtain ⟨⟨n, k'⟩, m', e⟩ := List.mem_map.mp m
                dsimp only at e
                split at e
                · cases e
                · cases e
                  have q := S.loc _ m' rfl
                  rw [S.frl _ n3 rfl] at q
                  cases q
              · exact .inl z
              · exact .inr z
            · show cells.lookup x = some c
              rw [← hcells, cellsFrom_old _ _ _ n4]
              obtain ⟨d, hd⟩ := hclf _ n3 rfl
              obtain ⟨d', hd'⟩ := lookup_of_mem hd
              have := hclm _ (mem_of_lookup hd')
              rw [ec] at this
              rw [hd', Option.some.inj this]
    · rcases memC x c e with ⟨q, _⟩ | ⟨q, _⟩
      · exact I3.freeC x c q
      · exact HC c (by omega)
    · unfold capSt
      show _ = N'.length
      rw [S.len, List.length_append, List.length_replicate, List.length_map]
  have stat : ∀ {H' : Hp}, (∀ b ∈ fp, H' b = none) → ∀ b ∈ fp, FpOk (cxComp X scope N' cells C s3 (upd H2 l (.lst [])) fp) [] H' b := fun hn b hb => by
    refine ⟨hn b hb, ?_, fpStk b hb, .inl hb, fun x c e z => ?_, (fun p hp => nomatch hp)⟩
    · have := fpLt b hb
      show @Ne Nat b C
      omega
    · subst z
      rcases memC x c e with ⟨q, _⟩ | ⟨q, _⟩
      · exact (f2 c hb).2.2.2.2.1 x c q rfl
      · have := fpLt c hb
        omega
  have fr0 : ∀ b ∈ fp, upd H2 l (.lst []) b = none := fun b hb => by
    rw [upd_ne (Nat.ne_of_lt (fpLt b hb))]
    exact (f2 b hb).1
  have tn4 : tn 0 h4 := T.keep _ _ _ st2 fun b _ o e => k34 b o (k23 b o e)
  have loop : codeAny (model X.prog X.w) X.A (.compLoop (.ListComp elt [⟨tg, iter, ifs, 0⟩] scope pos) 0 (.ref it) (.ref l) (compEnvC scope cells C X.env)) (compPost (model X.prog X.w) X.A X.xe use Q (.ref l) C) { s3 with heap := h4 } := by
    refine compLoop_gen (fun n s' => ∃ i σ' H', Inv (cxComp X scope N' cells C s3 (upd H2 l (.lst [])) fp) [] σ' H' s' ∧ tn i s'.heap ∧ (∀ b ∈ fp, H' b = none) ∧ W i n σ' H') ?_ m0 ⟨0, _, _, I4, tn4, fr0, w0⟩
    rintro n s5 ⟨i, σ5, H5, I5, st5, fr5, w5⟩
    rcases turn i n σ5 H5 w5 with ⟨stop, qn⟩ | ⟨go, step⟩
    · refine thn (T.done (cxComp X scope N' cells C s3 (upd H2 l (.lst [])) fp) rfl rfl rfl (hc _ _ _ _ _) i [] s5 σ5 H5 noX I5 (stat fr5) st5 stop) fun r s6 ⟨hr, I6⟩ => ?_
      subst hr
      have un : Un (frs X.stack) fp (upd H2 l (.lst [])) H5 s3.heap s6.heap := I6.base
      have J6 : Inv X pins σ H5 s6 := I3.call' (ch := fp) I6.os un I6.hok I6.bare fun b hb => ⟨(f2 b hb).2.2.2.1, (f2 b hb).2.1, (f2 b hb).2.2.2.2.1, (f2 b hb).2.2.2.2.2⟩
      obtain ⟨m6, n6, _⟩ := I6.loc
      have hCX : @Ne Nat C X.env.locals := by
        have h1 : @LT.lt Nat _ X.env.locals s3.heap.objs.size := I3.lt
        omega
      have hCs : @LE.le Nat _ X.s₀.heap.objs.size C := by have := I3.sz; omega
      refine fin l C s6 H5 J6 ⟨⟨I6.free, hCX, fun z => ?_, .inr hCs, fun x c e z => ?_, fun p hp z => ?_⟩, hCs, m6, n6⟩ qn
      · have := I3.nofs (a := C) (Nat.le_of_eq hC)
        exact this z
      · obtain ⟨v, iz⟩ := I3.cell x c e
        have h1 : @LT.lt Nat _ c s3.heap.objs.size := iz.lt
        have h2 : @Eq Nat c C := z
        omega
      · have h1 : @LT.lt Nat _ p.1 s3.heap.objs.size := Heap.lt_size (I3.pin p hp).1
        have h2 : @Eq Nat p.1 C := z
        omega
    · refine thn (T.item (cxComp X scope N' cells C s3 (upd H2 l (.lst [])) fp) rfl rfl rfl (hc _ _ _ _ _) i [] s5 σ5 H5 noX I5 (stat fr5) st5 go) fun r s6 ⟨u, hr, h6⟩ => ?_
      subst hr
      refine thn h6 fun _ s7 ⟨x, H7, I7, r7, y7, st7, fr7⟩ => ?_
      have I7' := I7.pinned (stat fr7) (T.obj _ _ st7)
      refine thn (hg cells C s3 (upd H2 l (.lst [])) fp _ s7 σ5 H7 x u _ I7' r7 (step x H7 y7)) fun _ s8 ⟨σ8, H8, I8, q8⟩ => ?_
      have again : ∀ {H9 : Hp} {s9 : Shared}, Inv (cxComp X scope N' cells C s3 (upd H2 l (.lst [])) fp) ([] ++ pinsAt fp s7.heap) σ8 H9 s9 → tn (i + 1) s9.heap ∧ ∀ b ∈ fp, H9 b = none := fun {H9 s9} I9 => by
        refine ⟨T.keep _ _ _ st7 fun b hb o e => (I9.pin (b, o) (List.mem_append_right _ (List.mem_append_right _ (mem_pinsAt hb e)))).1, fun b hb => ?_⟩
        obtain ⟨o, e, d⟩ := T.obj _ _ st7 b hb
        exact (I9.pin (b, o) (List.mem_append_right _ (List.mem_append_right _ (mem_pinsAt hb e)))).2.1
      obtain ⟨N, NV, hN, hNV, q8⟩ := q8
      refine thn (ht cells C s3 (upd H2 l (.lst [])) fp _ s8 σ8 H8 _ I8 q8) fun b s9 ⟨H9, I9, q9⟩ => ?_
      cases b with
      | false =>
        rw [if_neg Bool.false_ne_true] at q9 ⊢
        obtain ⟨m', hm, w9⟩ := hN _ q9
        exact ⟨m', hm, i + 1, σ8, H9, I9.unpinned, (again I9).1, (again I9).2, w9⟩
      | true =>
        rw [if_pos rfl] at q9 ⊢
        refine thn (he cells C s3 (upd H2 l (.lst [])) fp _ s9 σ8 H9 _ I9 q9) fun y s10 ⟨v, H10, I10, r10, q10⟩ => ?_
        obtain ⟨ys, el, hz, m', hm, w10⟩ := hNV _ _ q10
        refine thn (mt_append (X := cxComp X scope N' cells C s3 (upd H2 l (.lst [])) fp) _ s10 σ8 H10 (.ref l) [v] (.ref l) [y] (fun z H11 => z = .non ∧ H11 = upd H10 l (.lst (ys ++ [v]))) I10 rfl (.cons r10 .nil) ⟨l, ys, v, rfl, rfl, el, hz, rfl, rfl⟩) fun _ s11 ⟨_, H11, I11, _, _, e11⟩ => ?_
        subst e11
        exact ⟨m', hm, i + 1, σ8, _, I11.unpinned, (again I11).1, (again I11).2, w10⟩
  refine codeAny_compStart_list loop (T.self _ 0 _ _ _ tn4 loop)
end
end L2
namespace L2
open PySem PySem.Spec PyProof.Rows
section
variable {X : Cx} {elt tg iter : Expr} {ifs : List Expr} {scope : Scope} {pos : Pos} {wi : TI} {nT : Nat} {js : List Nat} {N' : List Str} {g : TG} {tt : TT} {te : TE}
def tComp (wi : TI) (nT : Nat) (js : List Nat) (g : TG) (tt : TT) (te : TE) : TE := fun σ H Q => wi σ H (compRd nT js g tt te σ fun l H' => Q (.ref l) H')
theorem pe_comp0 {Cc : Cx → Prop} (hc : ∀ cells C s H fp, Cc (cxComp X scope N' cells C s H fp)) (S : CompScope X scope nT js N') (hi : PI0 Cc X tg iter wi)
    (hg : ∀ cells C s H fp, PG (cxComp X scope N' cells C s H fp) tg g) (ht : ∀ cells C s H fp, PIfs (cxComp X scope N' cells C s H fp) ifs tt) (he : ∀ cells C s H fp, PE (cxComp X scope N' cells C s H fp) elt te)
    (hs : ∀ x, foldedSetIterable iter X.env x = pure x := by intro _; rfl) : PE X (.ListComp elt [⟨tg, iter, ifs, 0⟩] scope pos) (tComp wi nT js g tt te) := by
  intro pins s σ H Q I h
  rw [eval_ListComp]
  refine comp_run (use := none) hc S hi hg ht he I h (fun l C s' H' I' ⟨f, _, m, n⟩ q => ?_) hs
  refine ⟨m, n, fun h' sb => ⟨.ref l, H', ?_, rfl, q⟩⟩
  exact I'.turned (t' := s'.toks) (fun b o hb e => (sb.2 b hb).trans e) f.1 f.2.1 f.2.2.2.1 f.2.2.2.2.1 f.2.2.2.2.2
theorem pe_comp (hc : X.calm = true) (S : CompScope X scope nT js N') (hi : PI X tg iter wi)
    (hg : ∀ cells C s H fp, PG (cxComp X scope N' cells C s H fp) tg g) (ht : ∀ cells C s H fp, PIfs (cxComp X scope N' cells C s H fp) ifs tt) (he : ∀ cells C s H fp, PE (cxComp X scope N' cells C s H fp) elt te)
    (hs : ∀ x, foldedSetIterable iter X.env x = pure x := by intro _; rfl) : PE X (.ListComp elt [⟨tg, iter, ifs, 0⟩] scope pos) (tComp wi nT js g tt te) := pe_comp0 (fun _ _ _ _ _ => hc) S hi hg ht he hs
theorem ps_setComp0 {Cc : Cx → Prop} {i : Nat} {x : Str} {pos' spos : Pos} (hN : X.N.Nodup) (hi' : X.N[i]? = some x) (hx : X.env.scope.names.lookup x = some .local) (hc : ∀ cells C s H fp, Cc (cxComp X scope N' cells C s H fp)) (S : CompScope X scope nT js N') (hi : PI0 Cc X tg iter wi)
    (hg : ∀ cells C s H fp, PG (cxComp X scope N' cells C s H fp) tg g) (ht : ∀ cells C s H fp, PIfs (cxComp X scope N' cells C s H fp) ifs tt) (he : ∀ cells C s H fp, PE (cxComp X scope N' cells C s H fp) elt te)
    (hsw : swapsWith (.ListComp elt [⟨tg, iter, ifs, 0⟩] scope pos) (some (.Name x pos')) spos.line X.env = pure true := by rfl)
    (hs : ∀ x, foldedSetIterable iter X.env x = pure x := by intro _; rfl) : PS X (.Assign [.Name x pos'] (.ListComp elt [⟨tg, iter, ifs, 0⟩] scope pos) spos) (tAsg (tComp wi nT js g tt te) (gName i)) := by
  intro pins s σ H D I h
  rw [exec_Assign_Name_used _ _ _ _ hsw]
  refine wpAny_bind (wpAny_standAt (wpAny_bind ?_))
  show wpAny _ X.A (do let _ ← comprehension (.ListComp elt [⟨tg, iter, ifs, 0⟩] scope pos) scope X.env _ (newList []) false (eval iter X.env) (some (assign (.Name x pos') X.env))) _ _ s
  refine wpAny_bind (wpAny_mono (comp_run (use := some (assign (.Name x pos') X.env)) (Q := fun _ s' => SP X pins D .next s') hc S hi hg ht he I h (fun l C s' H' I' ⟨f, sz, m, n⟩ q => ?_) hs) (fun _ s' hq => wpAny_pure (wpAny_pure hq)) fun _ _ e => e)
  show wpAny _ _ (assign (.Name x pos') X.env (.ref l)) _ _ s'
  refine wpAny_assign_Name (store_ok2 I' hN hi' (.inl hx) (v := .ref l) rfl (fun s'' I'' ⟨a, sb, ha⟩ => ?_) (.inr hx))
  have hCa : C ≠ a := by
    rcases ha with rfl | ha
    · exact f.2.1
    · exact fun z => f.2.2.2.2.1 x a ha z.symm
  refine ⟨m, n.sameBut sb hCa, fun h' sb' => ⟨_, H', ?_, q⟩⟩
  exact I''.turned (t' := s''.toks) (fun b o hb e => (sb'.2 b hb).trans e) f.1 f.2.1 f.2.2.2.1 f.2.2.2.2.1 f.2.2.2.2.2
theorem ps_setComp {i : Nat} {x : Str} {pos' spos : Pos} (hN : X.N.Nodup) (hi' : X.N[i]? = some x) (hx : X.env.scope.names.lookup x = some .local) (hc : X.calm = true) (S : CompScope X scope nT js N') (hi : PI X tg iter wi)
    (hg : ∀ cells C s H fp, PG (cxComp X scope N' cells C s H fp) tg g) (ht : ∀ cells C s H fp, PIfs (cxComp X scope N' cells C s H fp) ifs tt) (he : ∀ cells C s H fp, PE (cxComp X scope N' cells C s H fp) elt te)
    (hsw : swapsWith (.ListComp elt [⟨tg, iter, ifs, 0⟩] scope pos) (some (.Name x pos')) spos.line X.env = pure true := by rfl)
    (hs : ∀ x, foldedSetIterable iter X.env x = pure x := by intro _; rfl) : PS X (.Assign [.Name x pos'] (.ListComp elt [⟨tg, iter, ifs, 0⟩] scope pos) spos) (tAsg (tComp wi nT js g tt te) (gName i)) := ps_setComp0 hN hi' hx (fun _ _ _ _ _ => hc) S hi hg ht he hsw hs
end
section
variable {js : List Nat} {tt : TT} {te : TE} {σ : St} {F : Addr → Hp → Prop}
end
end L2
namespace L2
open PySem PySem.Spec PyProof.Rows
section
variable {X : Cx}
theorem call_isi : CallR X (.builtin "isinstance") (fun xs H Q => ∃ x t T b, xs = [x, .ty T] ∧ TyOf X.K H x t ∧ PySem.W.kitOne X.K t (.type T) = some b ∧ Q (.bl b) H) := by
  intro pins s σ H xs us Q I r h
  obtain ⟨x, t, T, b, rfl, ty, e, q⟩ := h
  obtain ⟨u, w', rfl, r1, r2⟩ := vals2 r
  cases r2
  exact isinst_ok I r1 ty e fun tk => ⟨.bl b, H, I.tok tk, rfl, q⟩
theorem boot_isinstance : bootBuiltins "isinstance" = some (.builtin "isinstance") := by decide +kernel
structure EqK (K : PySem.W.Frag) {α : Type} [DecidableEq α] (R : Hp → V → α → Prop) (k : Nat) : Prop where
  eq : ∀ (X : Cx) (A : Around) (pins : List (Addr × Obj)) (s : Shared) (σ : St) (H : Hp) (x y : V) (v u : Value) (a b : α), X.K = K → Inv X pins σ H s → RelV x v → RelV y u → R H x a → R H y b → A.units + k < cLine → SeqAt.EqAt A s v u (decide (a = b))
  fn : ∀ (X : Cx) (pins : List (Addr × Obj)) (s : Shared) (σ : St) (H : Hp) (x : V) (a b : α), X.K = K → Inv X pins σ H s → R H x a → R H x b → a = b
def isI : Hp → V → Int → Prop := fun _ x n => x = .int n
def isLs (K : PySem.W.Frag) {α : Type} (R : Hp → V → α → Prop) : Hp → V → List α → Prop := fun H x as => ∃ p vs, x = .ref p ∧ SqL K H p vs ∧ Paired (R H) vs as
theorem Paired.at {α β : Type} {F : α → β → Prop} : ∀ {l₁ : List α} {l₂ : List β} {i : Nat} {a : α}, Paired F l₁ l₂ → l₁[i]? = some a → ∃ b, l₂[i]? = some b ∧ F a b
  | _, _, _, _, .nil, e => by simp at e
  | _, _, 0, _, .cons r _, e => by simp at e; subst e; exact ⟨_, rfl, r⟩
  | _, _, i + 1, a, .cons _ t, e => by
    obtain ⟨u, h1, h2⟩ := Paired.at (i := i) (a := a) t (by simpa using e)
    exact ⟨u, by simpa using h1, h2⟩
theorem Vals.at' {xs : List V} {us : List Value} {i : Nat} {u : Value} (r : Vals xs us) (h : us[i]? = some u) : ∃ x, xs[i]? = some x ∧ RelV x u := by
  have hl := r.length
  have hi : i < us.length := (List.getElem?_eq_some_iff.mp h).1
  have e : xs[i]? = some xs[i] := by simp
  obtain ⟨u', h1, h2⟩ := r.get e
  rw [h] at h1; cases h1
  exact ⟨_, e, h2⟩
section
variable {K : PySem.W.Frag} {α : Type} [DecidableEq α] {R : Hp → V → α → Prop} {k : Nat}
end
section
variable {prog : Program} {w : World} {A : Around} {E : Value → Shared → Prop} {s : Shared}
end
end
end L2
namespace L2
open PySem PySem.Spec PyProof.Rows
def Df (P : Program) (w : World) (K : PySem.W.Frag) (mg : Str → Option Value) (base : Heap) (k : Nat) (x : Str) (ps : List Str) (sp : Sp) : Prop :=
  ∃ f fd, mg x = some (.ref f) ∧ PySem.W.keepIn K (.ref f) = true ∧ Binds K fd ps [] ∧ FnOk P w K mg base CX0 k f fd ps sp
def Dm (P : Program) (w : World) (K : PySem.W.Frag) (mg : Str → Option Value) (base : Heap) (k : Nat) (C : Addr) (m : Str) (ps : List Str) (sp : Sp) : Prop :=
  ∃ f fd, Cls K C ∧ Meth K C m f ∧ Binds K fd ps [] ∧ FnOk P w K mg base CX0 k f fd ps sp
def Dk (P : Program) (w : World) (K : PySem.W.Frag) (mg : Str → Option Value) (base : Heap) (k : Nat) (x : Str) (C : Addr) (ps : List Str) (sp : Sp) : Prop :=
  ∃ f fd, mg x = some (.ref C) ∧ Mk K C f ∧ Binds K fd ps [] ∧ FnOk P w K mg base CX0 k f fd ps sp
section
variable {X : Cx} {k : Nat} {C : Addr} {ps : List Str} {sp : Sp} {x m : Str} {p pos apos : Pos} {e o : Expr} {es : List Expr} {ta : TE} {t : TA}
theorem pe_callD (D : Df X.prog X.w X.K X.mg X.base k x ps sp) (hr : Room k X.A) (hg : Gl X x)
    (ha : PA X (e :: es) t) (hdb : (x == ("__debug__" : Str)) = false := by decide) (he : starEach (e :: es) X.env = (false, eval e X.env) :: starEach es X.env := by rfl) (hpl : (backTo pos (starEach es X.env)).any (·.1) = false := by rfl) :
    PE X (.Call (.Name x p) (e :: es) [] pos) (tCall sp [] E0 t) := by
  obtain ⟨f, fd, hm, kp, b, F⟩ := D
  exact pe_call F hr hg hm kp b .nil pass0 ha hdb he hpl
theorem pe_makeD (D : Dk X.prog X.w X.K X.mg X.base k x C ps sp) (hr : Room (k + 1) X.A) (hg : Gl X x)
    (ha : PA X (e :: es) t) (hdb : (x == ("__debug__" : Str)) = false := by decide) (he : starEach (e :: es) X.env = (false, eval e X.env) :: starEach es X.env := by rfl) (hpl : (backTo pos (starEach es X.env)).any (·.1) = false := by rfl) :
    PE X (.Call (.Name x p) (e :: es) [] pos) (tMake C sp [] E0 t) := by
  obtain ⟨f, fd, hm, M, b, F⟩ := D
  exact pe_make M F hr hg hm b .nil pass0 ha hdb he hpl
end
def Fn0 (K : PySem.W.Frag) (x qual : Str) (st : Stmt) : Prop := ∃ f fd, PySem.W.nsIn K mainGlobals x = some (some (.ref f)) ∧ Fun K x qual st f fd
theorem fn0_mk {K : PySem.W.Frag} {x qual : Str} {st : Stmt} {f : Addr} {oc : Value} {od an : Option Addr} {osl : Array (Option Value)} {kV doc pm cdv ct : Value} (a : PySem.W.nsIn K mainGlobals x = some (some (.ref f)))
    (l : K.lookup f = some ⟨oc, od, .func (PySem.W.fnOf x qual (defArgs st) (defBody st) (defScope st) .none kV doc pm an cdv ct), osl⟩)
    (c : PySem.W.codeIn K cdv qual = true) (k : PySem.W.keepIn K (.ref f) = true) : Fn0 K x qual st := ⟨f, _, a, fun_mk l c k⟩
def Me0 (K : PySem.W.Frag) (C : Addr) (m qual : Str) (st : Stmt) : Prop := ∃ f fd, Meth K C m f ∧ Fun K m qual st f fd
theorem me0_mk {K : PySem.W.Frag} {C : Addr} {m qual : Str} {st : Stmt} {f : Addr} {oc : Value} {od an : Option Addr} {osl : Array (Option Value)} {kV doc pm cdv ct : Value} (a : PySem.W.findIn K (.ref C) m = some (some (.ref f))) (i : PySem.W.isFn K (.ref f) = true)
    (l : K.lookup f = some ⟨oc, od, .func (PySem.W.fnOf m qual (defArgs st) (defBody st) (defScope st) .none kV doc pm an cdv ct), osl⟩)
    (c : PySem.W.codeIn K cdv qual = true) (k : PySem.W.keepIn K (.ref f) = true) : Me0 K C m qual st := ⟨f, _, ⟨a, i, k⟩, fun_mk l c k⟩
end L2
set_option maxRecDepth 100000
namespace L2
open PySem PySem.Spec PyProof.Rows
theorem same_upd {H H2 : Hp} {T : Addr} {o : HO} (e : Same H H2) (h : H2 T = Option.none) : Same H (upd H2 T o) := fun b u hb => by
  rw [upd_ne (ne_of_none (e b u hb) h)]
  exact e b u hb
theorem same_new {H H2 : Hp} {T : Addr} {o : HO} (e : Same H H2) (h : H T = Option.none) : Same H (upd H2 T o) := fun b u hb => by
  rw [upd_ne (ne_of_none hb h)]
  exact e b u hb
def Rw (H : Hp) (x : V) (r : List Int) : Prop := ∃ a, x = .ref a ∧ H a = some (.lst (r.map V.int))
def Tb (H : Hp) (x : V) (t : List (List Int)) : Prop := ∃ a xs, x = .ref a ∧ H a = some (.lst xs) ∧ Paired (Rw H) xs t
theorem Rw.mono {H H' : Hp} {x : V} {r : List Int} (e : Same H H') (h : Rw H x r) : Rw H' x r := let ⟨a, q1, q2⟩ := h; ⟨a, q1, e _ _ q2⟩
theorem Tb.mono {H H' : Hp} {x : V} {t : List (List Int)} (e : Same H H') (h : Tb H x t) : Tb H' x t := let ⟨a, xs, q1, q2, q3⟩ := h; ⟨a, xs, q1, e _ _ q2, Paired.mapP q3 fun _ _ z => z.mono e⟩
def RwN (H H' : Hp) (x : V) (r : List Int) : Prop := ∃ a, x = .ref a ∧ H a = none ∧ H' a = some (.lst (r.map V.int))
def TbN (H H' : Hp) (l : Addr) (t : List (List Int)) : Prop := H l = none ∧ ∃ xs, H' l = some (.lst xs) ∧ Paired (RwN H H') xs t
theorem RwN.rw {H H' : Hp} {x : V} {r : List Int} (h : RwN H H' x r) : Rw H' x r := let ⟨a, q1, _, q2⟩ := h; ⟨a, q1, q2⟩
theorem TbN.tb {H H' : Hp} {l : Addr} {t : List (List Int)} (h : TbN H H' l t) : Tb H' (.ref l) t := let ⟨_, xs, q1, q2⟩ := h; ⟨l, xs, rfl, q1, Paired.mapP q2 fun _ _ z => z.rw⟩
theorem Paired.snoc' {α β : Type} {F : α → β → Prop} {a : α} {b : β} {l₁ : List α} {l₂ : List β} (r : Paired F l₁ l₂) (h : F a b) : Paired F (l₁ ++ [a]) (l₂ ++ [b]) := Paired.snoc r h
theorem paired_ints : ∀ (r : List Int), Paired (fun (x : V) n => x = V.int n) (r.map V.int) r
  | [] => .nil
  | _ :: r => .cons rfl (paired_ints r)
section
variable {js : List Nat} {te : TE} {σ : St} {F : Addr → Hp → Prop} {H : Hp}
abbrev caps (σ : St) (js : List Nat) : St := js.map fun j => (σ[j]?).join
end
end L2
namespace L2
open PySem PySem.Spec PyProof.Rows
section
variable (K : PySem.W.Frag) {X : Cx} {pos : Pos}
theorem ixlK (h : X.K = K := by rfl) : IxR X (rIxL K) := h ▸ ix_list
theorem pilK {tg l : Expr} {tl : TE} (hl : PE X l tl) (h : X.K = K := by rfl) : PI X tg l (iList K tl) := h ▸ pi_list hl
theorem pgtK {es : List Expr} {k : Nat} {t : TGs} {n : Nat} (hc : X.calm = true) (hh : PGs X es t) (h : X.K = K := by rfl)
    (hn : (assignEach es X.env).length = n := by rfl) (hst : (assignEach es X.env).findIdx? (·.1) = none := by rfl) : PG X (.Tuple es k pos) (gTup K n t) := h ▸ pg_tup hc hh hn hst
theorem lenK (h : X.K = K := by rfl) : CallR X (.builtin "len") (fun xs H Q => ∃ p ys, xs = [.ref p] ∧ (SqL K H p ys ∨ SqT K H p ys) ∧ Q (.int ys.length) H) := h ▸ call_len_seq
theorem isiK (h : X.K = K := by rfl) : CallR X (.builtin "isinstance") (fun xs H Q => ∃ x t T b, xs = [x, .ty T] ∧ TyOf K H x t ∧ PySem.W.kitOne K t (.type T) = some b ∧ Q (.bl b) H) := h ▸ call_isi
theorem fldK {e : Expr} {f : Str} {ta : TE} (he : PE X e ta) (hb : attributeBase e f X.env (eval e X.env) = eval e X.env) (h : X.K = K := by rfl) : PE X (.Attribute e f pos) (tFld K ta f) := h ▸ pe_fld he hb
theorem bm0K {o : Expr} {to : TE} {name : Str} {apos cpos : Pos} {T id : String} {r : V → List V → Hp → VK → Prop} (pa : PlainAttrs T) (slot : Slot T name id) (hty : typeOf (.builtin id) = pure (.type "method_descriptor")) (hm : MtR X id r) (ho : PE X o to) (h : X.K = K := by rfl)
    (hbase : attributeBase o name X.env (eval o X.env) = eval o X.env := by rfl) (hline : (apos.endLine == cpos.line) = true := by rfl) : PE X (.Call (.Attribute o name apos) [] [] cpos) (tBM0 K T r to) := h ▸ pe_bm0 pa slot hty hm ho hbase hline
theorem bmK {o e : Expr} {es : List Expr} {to : TE} {t : TA} {name : Str} {apos cpos : Pos} {T id : String} {r : V → List V → Hp → VK → Prop} (pa : PlainAttrs T) (slot : Slot T name id) (hty : typeOf (.builtin id) = pure (.type "method_descriptor")) (hm : MtR X id r) (ho : PE X o to) (ha : PA X (e :: es) t) (h : X.K = K := by rfl)
    (hbase : attributeBase o name X.env (eval o X.env) = eval o X.env := by rfl)
    (hfew : ((backTo cpos (starEach (e :: es) X.env)).all (fun x => !x.1) && (backToKw cpos (keywordEach [] X.env)).all (fun x => x.1.isSome)
      && decide ((e :: es).length + ([] : List Keyword).length + (if ([] : List Keyword).isEmpty then 0 else 1) < 30)) = true := by rfl)
    (hline : (apos.endLine == cpos.line) = true := by rfl) (hs : starEach (e :: es) X.env = (false, eval e X.env) :: starEach es X.env := by rfl) (hplain : (backTo cpos (starEach es X.env)).any (·.1) = false := by rfl) :
    PE X (.Call (.Attribute o name apos) (e :: es) [] cpos) (tBM K T r to t) := h ▸ pe_bm pa slot hty hm ho ha hbase hfew hline hs hplain
end
end L2
namespace L2
open PySem PySem.Spec PyProof.Rows
def tIfJ (c : TT) (t u : TS) : TS := fun D σ H => ∃ J : St → Hp → Prop, (∀ σ' H', J σ' H' → D.nx σ' H') ∧ c σ H fun b H1 => if b = true then t { D with nx := J } σ H1 else u { D with nx := J } σ H1
theorem ps_ifJ {X : Cx} {pos : Pos} {t u : TS} {c : Expr} {a b : List Stmt} {tc : TT} (hc : PT X c tc) (ha : PSs X a t) (hb : PSs X b u) : PS X (.If c a b pos) (tIfJ tc t u) := by
  intro pins s σ H D I h
  obtain ⟨J, hJ, h⟩ := h
  refine thn (ps_if (pos := pos) hc ha hb pins s σ H { D with nx := J } I h) fun f s1 q => ?_
  cases f with
  | next => obtain ⟨σ', H', I', q⟩ := q; exact ⟨σ', H', I', hJ _ _ q⟩
  | brk => exact q
  | cont => exact q
  | ret v => exact q
section
variable {js : List Nat} {te : TE} {σ : St} {F : Addr → Hp → Prop} {H : Hp}
end
end L2
set_option maxRecDepth 100000
namespace L2
open PySem PySem.Spec PyProof.Rows
section
variable {X : Cx} {es : List Expr} {pos : Pos} {t : TA}
def NewQ (H : Hp) (o : HO) (Q : VK) : Prop := ∀ p H2, Same H H2 → H p = none → H2 p = some o → Q (.ref p) H2
theorem NewQ.at {H : Hp} {o : HO} {Q : VK} (h : NewQ H o Q) {p : Addr} (hp : H p = none) : Q (.ref p) (upd H p o) := h p _ (same_upd (Same.refl _) hp) hp upd_same
def tTupS (t : TA) : TE := fun σ H Q => t σ H fun xs H1 => xs.length ≤ sizeLine ∧ NewQ H1 (.tup xs) Q
def tLstS (t : TA) : TE := fun σ H Q => t σ H fun xs H1 => xs.length ≤ sizeLine ∧ NewQ H1 (.lst xs) Q
theorem pe_tupS {x1} (h : PA X es t) : PE X (.Tuple es x1 pos) (tTupS t) := by
  intro pins s σ H Q I hq
  refine wpAny_Tuple_spliced (thn (h pos pins s σ H _ I hq) fun us s1 ⟨xs, H1, I1, r, z, q⟩ => ⟨by rw [← r.length]; exact z, ?_⟩)
  have hf : H1 s1.heap.objs.size = none := I1.hok.fresh (Nat.le_refl _)
  refine ⟨.ref s1.heap.objs.size, upd H1 s1.heap.objs.size (.tup xs), I1.laid (t' := s1.toks) (fun b u e => Heap.get?_push_of_some _ e) (Nat.le_refl _) ?_, rfl, q.at hf⟩
  exact ⟨z, us, r, ⟨_, Heap.get?_push_size _ rfl, rfl, _, rfl⟩⟩
theorem pe_lstS (h : PA X es t) : PE X (.List es pos) (tLstS t) := by
  intro pins s σ H Q I hq
  refine wpAny_List_spliced (thn (h pos pins s σ H _ I hq) fun us s1 ⟨xs, H1, I1, r, z, q⟩ => ⟨by rw [← r.length]; exact z, ?_⟩)
  have hf : H1 s1.heap.objs.size = none := I1.hok.fresh (Nat.le_refl _)
  refine ⟨.ref s1.heap.objs.size, upd H1 s1.heap.objs.size (.lst xs), I1.laid (t' := s1.toks) (fun b u e => Heap.get?_push_of_some _ e) (Nat.le_refl _) ?_, rfl, q.at hf⟩
  exact ⟨z, us, 0, r, Heap.get?_push_size _ rfl⟩
theorem OpR.imp {f : Value → Value → Sem Value} {r r' : R2} (h : OpR X f r) (k : ∀ x y H Q, r' x y H Q → r x y H Q) : OpR X f r' := fun pins s σ H x y v u Q I rx ry q => h pins s σ H x y v u Q I rx ry (k _ _ _ _ q)
theorem SlR.imp {r r' : V → Option Int → Option Int → Hp → VK → Prop} (h : SlR X r) (k : ∀ x l u H Q, r' x l u H Q → r x l u H Q) : SlR X r' := fun pins s σ H x v vl vu lo hi sl Q I rx hs pl pu q => h pins s σ H x v vl vu lo hi sl Q I rx hs pl pu (k _ _ _ _ _ q)
theorem CallR.imp {f : Value} {r r' : List V → Hp → VK → Prop} (h : CallR X f r) (k : ∀ xs H Q, r' xs H Q → r xs H Q) : CallR X f r' := fun pins s σ H xs us Q I rx q => h pins s σ H xs us Q I rx (k _ _ _ q)
def rCatS : R2 := fun x y H Q => ∃ l b xs zs, x = .ref l ∧ y = .ref b ∧ H l = some (.lst xs) ∧ H b = some (.lst zs) ∧ xs.length + zs.length ≤ sizeLine ∧ NewQ H (.lst (xs ++ zs)) Q
theorem op_catS : OpR X (binaryOp .Add) rCatS := op_cat.imp fun _ _ _ _ ⟨l, b, xs, zs, h1, h2, h3, h4, h5, q⟩ => ⟨l, b, xs, zs, h1, h2, h3, h4, h5, fun _ hp => q.at hp⟩
def rSlLS (K : PySem.W.Frag) : V → Option Int → Option Int → Hp → VK → Prop := fun x lo hi H Q => ∃ a xs, x = .ref a ∧ SqL K H a xs ∧ NewQ H (.lst (cutV xs lo hi)) Q
theorem sllS (K : PySem.W.Frag) (h : X.K = K := by rfl) : SlR X (rSlLS K) := by
  subst h
  exact sl_list.imp fun _ _ _ _ _ ⟨a, xs, h1, h2, q⟩ => ⟨a, xs, h1, h2, fun _ hp => q.at hp⟩
end
theorem ints_ls {K : PySem.W.Frag} {H : Hp} {a : Addr} {r : List Int} (h : H a = some (.lst (r.map V.int))) : isLs K isI H (.ref a) r := ⟨a, _, rfl, SqL.of h, paired_ints r⟩
theorem Rw.ls {K : PySem.W.Frag} {H : Hp} {x : V} {r : List Int} (h : Rw H x r) : isLs K isI H x r := by
  obtain ⟨a, rfl, h⟩ := h
  exact ints_ls h
theorem Tb.ls {K : PySem.W.Frag} {H : Hp} {x : V} {t : List (List Int)} (h : Tb H x t) : isLs K (isLs K isI) H x t := by
  obtain ⟨a, xs, rfl, h, hp⟩ := h
  exact ⟨a, xs, rfl, SqL.of h, Paired.mapP hp fun _ _ z => z.ls⟩
def hide (l : Addr) (H : Hp) : Hp := fun b => if b = l then none else H b
theorem hide_ne {l b : Addr} {H : Hp} (h : b ≠ l) : hide l H b = H b := if_neg h
theorem hide_new {l b : Addr} {H H2 : Hp} {o : HO} (hl : H l ≠ none) (hb : H b = none) (h : H2 b = some o) : hide l H2 b = some o := by
  rw [hide_ne (fun z => hl (by rw [← z]; exact hb))]; exact h
theorem RwN.hide {l : Addr} {H H' : Hp} {x : V} {r : List Int} (hl : H l ≠ none) (h : RwN H H' x r) : Rw (L2.hide l H') x r := let ⟨a, q1, q2, q3⟩ := h; ⟨a, q1, hide_new hl q2 q3⟩
theorem TbN.hide {l a : Addr} {H H' : Hp} {t : List (List Int)} (hl : H l ≠ none) (h : TbN H H' a t) : Tb (L2.hide l H') (.ref a) t := by
  obtain ⟨h0, xs, h1, h2⟩ := h
  exact ⟨a, xs, rfl, hide_new hl h0 h1, Paired.mapP h2 fun _ _ z => z.hide hl⟩
section
variable {js : List Nat} {te : TE} {σ : St} {F : Addr → Hp → Prop} {H : Hp}
end
end L2
set_option maxRecDepth 100000
namespace L2
open PySem PySem.Spec PyProof.Rows
theorem cut_take (xs : List V) (k : Nat) : cutV xs none (some (k : Int)) = xs.take k := by
  unfold cutV
  rw [HT.sIx_none, HT.sIx_nat, List.drop_zero, Nat.sub_zero]
  rw [List.take_eq_take_iff]
  omega
theorem cut_drop (xs : List V) (k : Nat) : cutV xs (some (k : Int)) none = xs.drop k := by
  unfold cutV
  rw [HT.sIx_none, HT.sIx_nat]
  rw [List.take_of_length_le (by rw [List.length_drop]; omega)]
  by_cases h : k ≤ xs.length
  · rw [Nat.min_eq_left h]
  · rw [Nat.min_eq_right (by omega), List.drop_eq_nil_of_le (Nat.le_refl _), List.drop_eq_nil_of_le (by omega)]
theorem iteNN {c A B : Prop} [Decidable c] (hc : ¬ c) (h : A) : if (!decide c) = true then A else B := by
  rw [decide_eq_false hc]
  exact iteT h
section
variable {js : List Nat} {te : TE} {σ : St} {F : Addr → Hp → Prop} {H : Hp}
end
end L2
set_option maxRecDepth 100000
namespace L2
open PySem
def toldC (M : Model) (Γ : Ctx) (p : Pos) (k : Result → Sem Fin) (h : Option Value) (g : Bool) (l : List Value) (e : End) (s' : Shared) (s1 : Shared) : End → Prop
  | .ret r => Runs M Γ p (k r) [] s1 e s'
  | .susp v g0 l0 k0 c0 p0 fs => e = .susp v g0 l0 k0 c0 p0 (fs ++ [.ret k h g l Γ.code p []]) ∧ s' = s1
def toldR (M : Model) (Γ : Ctx) (r : Result) (fs : List Frame) (e : End) (s' : Shared) (s1 : Shared) : Frame → Prop
  | .ret k _ _ _ c1 p1 _ => Runs M (Γ.goto c1) p1 (k r) fs s1 e s'
  | .gen g k _ c1 p1 => Runs M (Γ.goto c1) p1 (k (End.ret r).result) fs (s1.setGen g .finished) e s'
def toldF (M : Model) (Γ : Ctx) (F : Frame) (fs : List Frame) (e : End) (s' : Shared) (s1 : Shared) : End → Prop
  | .ret r => toldR M Γ r fs e s' s1 F
  | .susp v g0 l0 k0 c0 p0 fs0 => ∀ o, splitAtGen (F :: fs) = o → match o with
    | none => e = .susp v g0 l0 k0 c0 p0 (fs0 ++ F :: fs) ∧ s' = s1
    | some (pre, (g, k, c1, p1), rest) => Runs M (Γ.goto c1) p1 (k (.yielded v)) rest (s1.setGen g (End.susp v g0 l0 k0 c0 p0 (fs0 ++ pre)).genState) e s'
def toldT (M : Model) (Γ : Ctx) (p : Pos) (s : Shared) (e : End) (s' : Shared) : Sem Fin → Prop
  | .pure (.done f) => e = .ret (.ok f) ∧ s' = s
  | .pure (.again c) => Runs M (Γ.goto c) p (M.den c) [] s e s'
  | .raise x => e = .ret (.error x) ∧ s' = s
  | .rule _ k => Runs M Γ p (k ()) [] s e s'
  | .at p' k => Runs M Γ p' (k ()) [] s e s'
  | .load a _ k => ∀ o, s.heap.get? a = some o → Runs M Γ p (k o) [] s e s'
  | .update a _ f k => Runs M Γ p (k ()) [] { s with heap := s.heap.update a f } e s'
  | .loadIfAlive a k => Runs M Γ p (k (s.heap.get? a)) [] s e s'
  | .point _ k => Runs M Γ p (k ()) [] s e s'
  | .alloc o k => Runs M Γ p (k s.heap.objs.size) [] { s with heap := s.heap.push o } e s'
  | .fresh k => Runs M Γ p (k s.toks) [] { s with toks := s.toks + 1 } e s'
  | .ask k => Runs M Γ p (k ⟨M.prog, M.w.params⟩) [] s e s'
  | .choose src n k => Runs M Γ p (k (M.w.draws src (s.drawn.get src) % n)) [] { s with drawn := s.drawn.bump src } e s'
  | .os q _ k => Runs M Γ p (k (Os.step s.os q).2) [] { s with os := (Os.step s.os q).1 } e s'
  | .handled own k => Runs M Γ p (k (if own then Γ.own else Γ.handled)) [] s e s'
  | .genState g k => ∀ st, s.gens[g]? = some st → Runs M Γ p (k st.seen) [] s e s'
  | .stack k => Runs M Γ p (k ((Γ.code, p) :: Γ.below)) [] s e s'
  | .thread k => Runs M Γ p (k 0) [] s e s'
  | .newGen c k => Runs M Γ p (k s.gens.size) [] { s with gens := s.gens.push (.fresh c) } e s'
  | .call c h g l k => ∃ E s1, Runs M (Γ.enter c h p) p (M.den c) [] s E s1 ∧ toldC M Γ p k h g l e s' s1 E
  | .yield v g l k => e = .susp v g l k Γ.code p [] ∧ s' = s
  | .resume g r _ k => ∃ res s1, Wakes M Γ p g r s res s1 ∧ Runs M Γ p (k res) [] s1 e s'
  | _ => True
def told (M : Model) (Γ : Ctx) (p : Pos) (t : Sem Fin) (s : Shared) (e : End) (s' : Shared) : List Frame → Prop
  | [] => toldT M Γ p s e s' t
  | F :: fs => ∃ E s1, Runs M (Γ.over (F :: fs)) p t [] s E s1 ∧ toldF M Γ F fs e s' s1 E
def toldW (M : Model) (Γ : Ctx) (p : Pos) (g : Nat) (s : Shared) (res : GenResult) (s' : Shared) (c : Code) : Resume → Prop
  | .send .none => ∃ e₁ s₁, Runs M (Γ.wake c p) p (M.den c) [] (s.setGen g .running) e₁ s₁ ∧ e₁.quiet = true ∧ res = e₁.result ∧ s' = s₁.setGen g e₁.genState
  | .send _ => res = .justStarted ∧ s' = s
  | .throw x => res = .raised x ∧ s' = s.setGen g .finished
def toldG (M : Model) (Γ : Ctx) (p : Pos) (g : Nat) (r : Resume) (s : Shared) (res : GenResult) (s' : Shared) : GenState → Prop
  | .fresh c => toldW M Γ p g s res s' c r
  | .suspended k₀ _ c₀ p₀ fs _ => ∃ e₁ s₁, Runs M (Γ.wake c₀ p) p₀ (k₀ r) fs (s.setGen g .running) e₁ s₁ ∧ e₁.quiet = true ∧ res = e₁.result ∧ s' = s₁.setGen g e₁.genState
  | .running => res = .running ∧ s' = s
  | .finished => res = .finished ∧ s' = s
theorem wakes_iff {M : Model} {Γ : Ctx} {p : Pos} {g : Nat} {r : Resume} {s : Shared} {res : GenResult} {s' : Shared} {st : GenState} (h : s.gens[g]? = some st) : Wakes M Γ p g r s res s' ↔ toldG M Γ p g r s res s' st := by
  unfold Wakes
  rw [h]
  cases st <;> exact Iff.rfl
theorem wakes_at {M : Model} {Γ : Ctx} {p : Pos} {g : Nat} {r : Resume} {s : Shared} {res : GenResult} {s' : Shared} {st : GenState} (h : s.gens[g]? = some st) (x : Wakes M Γ p g r s res s') : toldG M Γ p g r s res s' st := (wakes_iff h).1 x
theorem at_wakes {M : Model} {Γ : Ctx} {p : Pos} {g : Nat} {r : Resume} {s : Shared} {res : GenResult} {s' : Shared} {st : GenState} (h : s.gens[g]? = some st) (x : toldG M Γ p g r s res s' st) : Wakes M Γ p g r s res s' := (wakes_iff h).2 x
theorem started_at {M : Model} {Γ : Ctx} {p : Pos} {g : Nat} {s : Shared} {res : GenResult} {s' : Shared} {c : Code} {v : Value} (hv : v ≠ .none) : toldW M Γ p g s res s' c (.send v) ↔ (res = .justStarted ∧ s' = s) := by
  unfold toldW
  split
  · next h => cases h; exact absurd rfl hv
  · exact Iff.rfl
  · next h => cases h
theorem runs_told {M : Model} {Γ : Ctx} {p : Pos} {t : Sem Fin} {fs : List Frame} {s : Shared} {e : End} {s' : Shared} (h : Runs M Γ p t fs s e s') : told M Γ p t s e s' fs := by
  cases h with
  | done => exact ⟨rfl, rfl⟩
  | raise => exact ⟨rfl, rfl⟩
  | again _ b => exact b
  | rule b => exact b
  | «at» b => exact b
  | load g b => exact fun o h => Option.some.inj (g.symm.trans h) ▸ b
  | update _ b => exact b
  | loadIfAlive b => exact b
  | point b => exact b
  | alloc b => exact b
  | fresh b => exact b
  | ask b => exact b
  | choose _ b => exact b
  | os b => exact b
  | handled b => exact b
  | genState g b => exact fun o h => Option.some.inj (g.symm.trans h) ▸ b
  | stack b => exact b
  | thread b => exact b
  | newGen b => exact b
  | call a b => exact ⟨_, _, a, b⟩
  | callSusp a => exact ⟨_, _, a, rfl, rfl⟩
  | yield => exact ⟨rfl, rfl⟩
  | resumeFresh g a q b => exact ⟨_, _, at_wakes g ⟨_, _, a, q, rfl, rfl⟩, b⟩
  | resumeSuspended g a q b => exact ⟨_, _, at_wakes g ⟨_, _, a, q, rfl, rfl⟩, b⟩
  | resumeJustStarted g nv b => exact ⟨_, _, at_wakes g ((started_at nv).2 ⟨rfl, rfl⟩), b⟩
  | resumeThrowFresh g b => exact ⟨_, _, at_wakes g ⟨rfl, rfl⟩, b⟩
  | resumeRunning g b => exact ⟨_, _, at_wakes g ⟨rfl, rfl⟩, b⟩
  | resumeFinished g b => exact ⟨_, _, at_wakes g ⟨rfl, rfl⟩, b⟩
  | segRet a b => exact ⟨_, _, a, b⟩
  | segGen a b => exact ⟨_, _, a, b⟩
  | segSuspOut n a => exact ⟨_, _, a, fun o h => by rw [n] at h; subst h; exact ⟨rfl, rfl⟩⟩
  | segSuspGen n a _ b => exact ⟨_, _, a, fun o h => by rw [n] at h; subst h; exact b⟩
theorem runs_one {M : Model} {Γ : Ctx} {p : Pos} {t : Sem Fin} {fs : List Frame} {s : Shared} {e : End} {s' : Shared} (h1 : Runs M Γ p t fs s e s') : ∀ {e2 : End} {s2 : Shared}, Runs M Γ p t fs s e2 s2 → e = e2 ∧ s' = s2 := by
  induction h1 with
  | done => exact fun h2 => ⟨(runs_told h2).1.symm, (runs_told h2).2.symm⟩
  | raise => exact fun h2 => ⟨(runs_told h2).1.symm, (runs_told h2).2.symm⟩
  | again _ _ ih => exact fun h2 => ih (runs_told h2)
  | rule _ ih => exact fun h2 => ih (runs_told h2)
  | «at» _ ih => exact fun h2 => ih (runs_told h2)
  | load g _ ih => exact fun h2 => ih (runs_told h2 _ g)
  | update _ _ ih => exact fun h2 => ih (runs_told h2)
  | loadIfAlive _ ih => exact fun h2 => ih (runs_told h2)
  | point _ ih => exact fun h2 => ih (runs_told h2)
  | alloc _ ih => exact fun h2 => ih (runs_told h2)
  | fresh _ ih => exact fun h2 => ih (runs_told h2)
  | ask _ ih => exact fun h2 => ih (runs_told h2)
  | choose _ _ ih => exact fun h2 => ih (runs_told h2)
  | os _ ih => exact fun h2 => ih (runs_told h2)
  | handled _ ih => exact fun h2 => ih (runs_told h2)
  | genState g _ ih => exact fun h2 => ih (runs_told h2 _ g)
  | stack _ ih => exact fun h2 => ih (runs_told h2)
  | thread _ ih => exact fun h2 => ih (runs_told h2)
  | newGen _ ih => exact fun h2 => ih (runs_told h2)
  | call _ _ ih1 ih2 =>
    intro e2 s2 h2
    obtain ⟨E, s1, a, b⟩ := runs_told h2
    obtain ⟨rfl, rfl⟩ := ih1 a
    exact ih2 b
  | callSusp _ ih1 =>
    intro e2 s2 h2
    obtain ⟨E, s1, a, b⟩ := runs_told h2
    obtain ⟨rfl, rfl⟩ := ih1 a
    exact ⟨b.1.symm, b.2.symm⟩
  | yield => exact fun h2 => ⟨(runs_told h2).1.symm, (runs_told h2).2.symm⟩
  | resumeFresh g _ _ _ ih1 ih2 =>
    intro e2 s2 h2
    obtain ⟨res, s1, w, b⟩ := runs_told h2
    obtain ⟨E, t1, a, _, rfl, rfl⟩ := wakes_at g w
    obtain ⟨rfl, rfl⟩ := ih1 a
    exact ih2 b
  | resumeSuspended g _ _ _ ih1 ih2 =>
    intro e2 s2 h2
    obtain ⟨res, s1, w, b⟩ := runs_told h2
    obtain ⟨E, t1, a, _, rfl, rfl⟩ := wakes_at g w
    obtain ⟨rfl, rfl⟩ := ih1 a
    exact ih2 b
  | resumeJustStarted g nv _ ih =>
    intro e2 s2 h2
    obtain ⟨res, s1, w, b⟩ := runs_told h2
    obtain ⟨rfl, rfl⟩ := (started_at nv).1 (wakes_at g w)
    exact ih b
  | resumeThrowFresh g _ ih =>
    intro e2 s2 h2
    obtain ⟨res, s1, w, b⟩ := runs_told h2
    obtain ⟨rfl, rfl⟩ := wakes_at g w
    exact ih b
  | resumeRunning g _ ih =>
    intro e2 s2 h2
    obtain ⟨res, s1, w, b⟩ := runs_told h2
    obtain ⟨rfl, rfl⟩ := wakes_at g w
    exact ih b
  | resumeFinished g _ ih =>
    intro e2 s2 h2
    obtain ⟨res, s1, w, b⟩ := runs_told h2
    obtain ⟨rfl, rfl⟩ := wakes_at g w
    exact ih b
  | segRet _ _ ih1 ih2 =>
    intro e2 s2 h2
    obtain ⟨E, s1, a, b⟩ := runs_told h2
    obtain ⟨rfl, rfl⟩ := ih1 a
    exact ih2 b
  | segGen _ _ ih1 ih2 =>
    intro e2 s2 h2
    obtain ⟨E, s1, a, b⟩ := runs_told h2
    obtain ⟨rfl, rfl⟩ := ih1 a
    exact ih2 b
  | segSuspOut n _ ih1 =>
    intro e2 s2 h2
    obtain ⟨E, s1, a, b⟩ := runs_told h2
    obtain ⟨rfl, rfl⟩ := ih1 a
    exact ⟨(b _ n).1.symm, (b _ n).2.symm⟩
  | segSuspGen n _ _ _ ih1 ih2 =>
    intro e2 s2 h2
    obtain ⟨E, s1, a, b⟩ := runs_told h2
    obtain ⟨rfl, rfl⟩ := ih1 a
    exact ih2 (b _ n)
theorem wakes_one {M : Model} {Γ : Ctx} {p : Pos} {g : Nat} {r : Resume} {s : Shared} {a b : GenResult} {s1 s2 : Shared} (h1 : Wakes M Γ p g r s a s1) (h2 : Wakes M Γ p g r s b s2) : a = b ∧ s1 = s2 := by
  unfold Wakes at h1 h2
  split at h1
  · exact h1.elim
  · next c hc =>
    rw [hc] at h2
    cases r with
    | send v =>
      by_cases hv : v = .none
      · subst hv
        obtain ⟨e1, t1, r1, _, rfl, rfl⟩ := h1
        obtain ⟨e2, t2, r2, _, rfl, rfl⟩ := h2
        obtain ⟨x, y⟩ := runs_one r1 r2
        subst x y
        exact ⟨rfl, rfl⟩
      · cases v <;> first | exact absurd rfl hv | (obtain ⟨rfl, rfl⟩ := h1; obtain ⟨rfl, rfl⟩ := h2; exact ⟨rfl, rfl⟩)
    | throw x =>
      obtain ⟨rfl, rfl⟩ := h1
      obtain ⟨rfl, rfl⟩ := h2
      exact ⟨rfl, rfl⟩
  · next k0 l0 c0 p0 fs cl hc =>
    rw [hc] at h2
    obtain ⟨e1, t1, r1, _, rfl, rfl⟩ := h1
    obtain ⟨e2, t2, r2, _, rfl, rfl⟩ := h2
    obtain ⟨x, y⟩ := runs_one r1 r2
    subst x y
    exact ⟨rfl, rfl⟩
  · next hc =>
    rw [hc] at h2
    obtain ⟨rfl, rfl⟩ := h1
    obtain ⟨rfl, rfl⟩ := h2
    exact ⟨rfl, rfl⟩
  · next hc =>
    rw [hc] at h2
    obtain ⟨rfl, rfl⟩ := h1
    obtain ⟨rfl, rfl⟩ := h2
    exact ⟨rfl, rfl⟩
theorem wp_both {α : Type} {M : Model} {Γ : Ctx} {Q Q' : α → Pos → Shared → Prop} {E E' : Value → Pos → Shared → Prop} (t : Sem α) : ∀ {p : Pos} {s : Shared}, Sem.wp M Γ t Q E p s → Sem.wp M Γ t Q' E' p s → Sem.wp M Γ t (fun a p s => Q a p s ∧ Q' a p s) (fun e p s => E e p s ∧ E' e p s) p s := by
  induction t with
  | pure a => intro p s h1 h2; rw [Sem.wp] at *; exact ⟨h1, h2⟩
  | raise e => intro p s h1 h2; rw [Sem.wp] at *; exact ⟨h1, h2⟩
  | load a part k ih =>
    intro p s h1 h2
    rw [Sem.wp] at *
    obtain ⟨o, g, h1⟩ := h1
    obtain ⟨o2, g2, h2⟩ := h2
    rw [g] at g2
    cases g2
    exact ⟨o, g, ih o h1 h2⟩
  | update a part f k ih => intro p s h1 h2; rw [Sem.wp] at *; exact ⟨h1.1, ih () h1.2 h2.2⟩
  | choose src n k ih => intro p s h1 h2; rw [Sem.wp] at *; exact ⟨h1.1, ih _ h1.2 h2.2⟩
  | call c h g l k ih =>
    intro p s h1 h2
    rw [Sem.wp] at *
    obtain ⟨r, s1, r1, h1⟩ := h1
    obtain ⟨r', s1', r2, h2⟩ := h2
    obtain ⟨x, y⟩ := runs_one r1 r2
    cases x
    cases y
    exact ⟨r, s1, r1, ih r h1 h2⟩
  | genState g k ih =>
    intro p s h1 h2
    rw [Sem.wp] at *
    obtain ⟨o, g, h1⟩ := h1
    obtain ⟨o2, g2, h2⟩ := h2
    rw [g] at g2
    cases g2
    exact ⟨o, g, ih _ h1 h2⟩
  | resume g r l k ih =>
    intro p s h1 h2
    rw [Sem.wp] at *
    obtain ⟨r, s1, r1, h1⟩ := h1
    obtain ⟨r', s1', r2, h2⟩ := h2
    obtain ⟨x, y⟩ := wakes_one r1 r2
    cases x
    cases y
    exact ⟨r, s1, r1, ih r h1 h2⟩
  | _ =>
    intro p s h1 h2
    rw [Sem.wp] at *
    first
      | exact h1.elim
      | (rename_i ih; exact ih _ h1 h2)
theorem any_both {α : Type} {M : Model} {A : Around} {t : Sem α} {Q Q' : α → Shared → Prop} {E E' : Value → Shared → Prop} {s : Shared} (h1 : wpAny M A t Q E s) (h2 : wpAny M A t Q' E' s) : wpAny M A t (fun a s => Q a s ∧ Q' a s) (fun e s => E e s ∧ E' e s) s :=
  fun Γ p hΓ => wp_both t (h1 Γ p hΓ) (h2 Γ p hΓ)
end L2
set_option maxRecDepth 100000
namespace L2
open PySem
theorem dict_fields (f : Array Value → Array Value) (o : Obj) : (Obj.mapFields f o).dict = o.dict := by
  unfold Obj.mapFields
  split <;> rfl
def DictIs (h : Heap) (e : Addr) (od : Option Addr) : Prop := ∃ oe vs, h.get? e = some oe ∧ oe.data = .fields vs ∧ oe.dict = od ∧ vs[2]? = some .none
section
variable {M : Model} {A : Around} {E : Value → Shared → Prop} {s : Shared} {base : Heap} {env : Env} {outer : List Env} {L e : Addr} {oe : Obj} {vs : Array Value}
theorem flight_dict {od : Option Addr} {T : Addr} {oT : Obj} {ts : Array Value} (he : s.heap.get? e = some oe) (hd : oe.data = .fields vs) (h1 : vs[1]? = some (.ref T)) (ne : T ≠ e) (hT : s.heap.get? T = some oT) (hdT : oT.data = .fields ts) (h3 : 3 < ts.size) (ho : oe.dict = od) (h2 : vs[2]? = some .none) :
    wpAny M A (setFlight (.ref e) none) (fun _ s' => DictIs s'.heap e od) E s := by
  unfold setFlight
  refine wpAny_bind (wpAny_field he hd h1 ?_)
  rw [if_pos (by simp)]
  refine wpAny_setField hT hdT h3 ⟨oe, vs, ?_, hd, ho, h2⟩
  rw [Heap.get?_update_other _ _ ne]
  exact he
theorem entry_dict {head : Value} {hadNext : Bool} (hfr : A.frames = some (env :: outer)) (hl : s.heap.FunFrames base (env :: outer)) (hf : env.frame = some L) (he : s.heap.get? e = some oe) (hd : oe.data = .fields vs) (hz : 1 < vs.size) (h2 : vs[2]? = some .none) :
    wpAny M A (do let a ← frameOf env; let pl ← entryPlaceOf L hadNext; let b ← EntryCells.newEntry head a .none (rawInt L) .none pl; setField (.ref e) 1 b) (fun _ s' => wpAny M A (setFlight (.ref e) none) (fun _ s2 => DictIs s2.heap e oe.dict) E s') E s := by
  have out : e ∉ (env :: outer).filterMap (·.frame) := fun hm => by
    obtain ⟨_, o, ho, nf⟩ := hl.mem hm
    rw [he] at ho
    cases ho
    exact nf vs hd
  refine wpAny_bind (wpAny_frameOf_fun hfr hl hf fun h1 k1 => wpAny_bind (wpAny_entryPlaceOf fun pl hpl => ?_))
  have he1 : h1.get? e = some oe := (k1.2.1 e out).trans he
  unfold EntryCells.newEntry newFields
  refine wpAny_bind (wpAny_newObj_type ?_ (hpl.sizeOk5 _ _ _ _ _))
  have ne : h1.objs.size ≠ e := Nat.ne_of_gt (Heap.lt_size he1)
  refine wpAny_setField (Heap.get?_push_of_some _ he1) hd hz ?_
  have hd2 := Obj.data_mapFields hd (·.setIfInBounds 1 (Value.ref h1.objs.size))
  refine flight_dict (Heap.get?_update_self _ (Heap.get?_push_of_some _ he1) (Obj.isFreed_of_fields hd2)) hd2 (T := h1.objs.size) (by simp [hz]) ne ((Heap.get?_update_other _ _ (Ne.symm ne)).trans (Heap.get?_push_size h1 rfl)) rfl ?_ (dict_fields _ _) (by simpa [Array.getElem?_setIfInBounds] using h2)
  simp only [List.size_toArray, List.length_append, List.length_cons, List.length_nil]
  omega
theorem first_dict (hfr : A.frames = some (env :: outer)) (hl : s.heap.FunFrames base (env :: outer)) (hf : env.frame = some L) (he : s.heap.get? e = some oe) (hd : oe.data = .fields vs) (h1 : vs[1]? = some .none) (h2 : vs[2]? = some .none) :
    wpAny M A (leaving env (.ref e)) (fun _ s' => DictIs s'.heap e oe.dict) E s := by
  unfold leaving noteFrame
  simp only [hf]
  refine wpAny_bind (wpAny_bind (wpAny_field he hd h1 ?_))
  rw [if_neg (by decide)]
  exact entry_dict hfr hl hf he hd (Array.getElem?_eq_some_iff.mp h1).1 h2
theorem next_dict {cls a0 : Value} {od : Option Addr} (hfr : A.frames = some (env :: outer)) (hl : s.heap.FunFrames base (env :: outer)) (hf : env.frame = some L) (ht : s.heap.TracedW base e cls a0) (ho : DictIs s.heap e od) (hen : base.get? e = none) :
    wpAny M A (leaving env (.ref e)) (fun _ s' => DictIs s'.heap e od) E s := by
  obtain ⟨oe, vs, T, oT, ts, he, _, hd, h1, hnT, ne, hT, hdT, h3⟩ := ht
  obtain ⟨oe2, vs2, he2, hd2', ho, h2⟩ := ho
  rw [he] at he2
  cases he2
  rw [hd] at hd2'
  cases hd2'
  unfold leaving noteFrame
  simp only [hf]
  refine wpAny_bind (wpAny_bind (wpAny_field he hd h1 ?_))
  rw [if_pos (by simp)]
  refine wpAny_bind (wpAny_field hT hdT h3 ?_)
  rw [if_neg (by simp [rawInt])]
  refine wpAny_bind (wpAny_setField hT hdT (Array.getElem?_eq_some_iff.mp h3).1 ?_)
  have oth : ∀ b, b ≠ T → (s.heap.update T (Obj.mapFields (·.setIfInBounds 3 Value.none))).get? b = s.heap.get? b := fun b hb => Heap.get?_update_other _ _ (Ne.symm hb)
  have := entry_dict (M := M) (A := A) (E := E) (s := { s with heap := s.heap.update T (Obj.mapFields (·.setIfInBounds 3 Value.none)) }) (base := base) (head := .ref T) (hadNext := true) hfr (hl.of_keeps fun b o hb nf => ⟨o, (oth b (fun z => by rw [z, hT] at hb; cases hb; exact nf ts hdT)).trans hb, rfl⟩) hf ((oth e (Ne.symm ne)).trans he) hd (Array.getElem?_eq_some_iff.mp h1).1 h2
  rw [ho] at this
  exact this
theorem note_dict {cls a0 : Value} {od : Option Addr} (hfr : A.frames = some (env :: outer)) (hl : s.heap.FunFrames base (env :: outer)) (hf : env.frame = some L) (ht : s.heap.TracedW base e cls a0) (ho : DictIs s.heap e od) :
    wpAny M A (noteFrame (.ref e) env) (fun _ s' => DictIs s'.heap e od) E s := by
  obtain ⟨oe, vs, T, oT, ts, he, _, hd, h1, hnT, ne, hT, hdT, h3⟩ := ht
  obtain ⟨oe2, vs2, he2, hd2', ho, h2⟩ := ho
  rw [he] at he2
  cases he2
  rw [hd] at hd2'
  cases hd2'
  unfold noteFrame
  simp only [hf]
  refine wpAny_bind (wpAny_field he hd h1 ?_)
  rw [if_pos (by simp)]
  refine wpAny_bind (wpAny_field hT hdT h3 ?_)
  rw [if_neg (by simp [rawInt])]
  refine wpAny_bind (wpAny_setField hT hdT (Array.getElem?_eq_some_iff.mp h3).1 ?_)
  have oth : ∀ b, b ≠ T → (s.heap.update T (Obj.mapFields (·.setIfInBounds 3 Value.none))).get? b = s.heap.get? b := fun b hb => Heap.get?_update_other _ _ (Ne.symm hb)
  have hl2 := hl.of_keeps (h' := s.heap.update T (Obj.mapFields (·.setIfInBounds 3 Value.none))) fun b o hb nf => ⟨o, (oth b (fun z => by rw [z, hT] at hb; cases hb; exact nf ts hdT)).trans hb, rfl⟩
  have he2 := (oth e (Ne.symm ne)).trans he
  have out : e ∉ (env :: outer).filterMap (·.frame) := fun hm => by
    obtain ⟨_, o, ho, nf⟩ := hl2.mem hm
    rw [he2] at ho
    cases ho
    exact nf vs hd
  refine wpAny_bind (wpAny_frameOf_fun hfr hl2 hf fun h1' k1 => wpAny_bind (wpAny_entryPlaceOf fun pl hpl => ?_))
  have he1 : h1'.get? e = some oe := (k1.2.1 e out).trans he2
  unfold EntryCells.newEntry newFields
  refine wpAny_bind (wpAny_newObj_type ?_ (hpl.sizeOk5 _ _ _ _ _))
  refine wpAny_setField (Heap.get?_push_of_some _ he1) hd (Array.getElem?_eq_some_iff.mp h1).1 ?_
  have hd2 := Obj.data_mapFields hd (·.setIfInBounds 1 (Value.ref h1'.objs.size))
  exact ⟨_, _, Heap.get?_update_self _ (Heap.get?_push_of_some _ he1) (Obj.isFreed_of_fields hd2), hd2, (dict_fields _ _).trans ho, by simpa [Array.getElem?_setIfInBounds] using h2⟩
theorem land_dict {cls a0 fl : Value} {od : Option Addr} (ht : s.heap.TracedAtW base e cls a0 fl) (ho : DictIs s.heap e od) : wpAny M A (setFlight (.ref e) none) (fun _ s' => DictIs s'.heap e od) E s := by
  obtain ⟨oe, vs, T, oT, ts, he, _, hd, h1, hnT, ne, hT, hdT, h3⟩ := ht
  obtain ⟨oe2, vs2, he2, hd2', ho, h2⟩ := ho
  rw [he] at he2
  cases he2
  rw [hd] at hd2'
  cases hd2'
  exact flight_dict he hd h1 ne hT hdT (Array.getElem?_eq_some_iff.mp h3).1 ho h2
end
end L2
set_option maxRecDepth 100000
namespace L2
open PySem PySem.Spec PyProof.Rows
def CXE (P : Program) (w : World) : CXT := fun outer H s E e s' => ∃ (ea : Addr) (cls a0 : Value) (B : Heap) (H' : Hp) (od : Option Addr), DictIs s'.heap ea od ∧ e = .ref ea ∧ s'.os = s.os ∧ AllBare s'.gens ∧ Un (frs outer) [] H H' s.heap s'.heap ∧ HOk P w H' s'.heap ∧ H' ea = none ∧ s.heap.get? ea = none ∧
  Heap.FlyingW B outer ea cls a0 s'.heap ∧ (∀ b o, s'.heap.get? b = some o → b ∉ frs outer → B.get? b = none → s.heap.get? b = none ∧ H' b = none) ∧ E cls od H'
theorem objOk_there {P : Program} {w : World} {H : Hp} {h : Heap} {a : Addr} {o : HO} (x : ObjOk P w H h a o) : ∃ ob, h.get? a = some ob := by
  cases o with
  | lst xs => obtain ⟨_, _, _, _, e⟩ := x; exact ⟨_, e⟩
  | tup xs => obtain ⟨_, _, _, ob, e, _⟩ := x; exact ⟨_, e⟩
  | dK kvs => obtain ⟨_, _, _, _, o, _, _, e, _⟩ := x; exact ⟨_, e⟩
  | dT kvs => obtain ⟨_, _, _, _, o, _, _, e, _⟩ := x; exact ⟨_, e⟩
  | set S n => obtain ⟨o, _, _, _, e, _⟩ := x; exact ⟨_, e⟩
  | ins C dx fs => obtain ⟨_, _, _, e, _⟩ := x; exact ⟨_, e⟩
  | own y => obtain ⟨_, e⟩ := x; exact ⟨_, e⟩
  | xd fs => obtain ⟨_, ⟨_, _, _, e, _⟩, _⟩ := x; exact ⟨_, e⟩
  | rng lo hi => obtain ⟨_, _, _, e⟩ := x; exact ⟨_, e⟩
  | frz ob u => obtain ⟨e, _⟩ := x; exact ⟨_, e⟩
  | tbl ps => exact ⟨_, (show h.get? a = some _ from x)⟩
  | met f y => exact ⟨_, (show h.get? a = some _ from x)⟩
  | ext φ => obtain ⟨_, ⟨_, e⟩, _⟩ := x; exact ⟨_, e⟩
theorem un_fly {P : Program} {w : World} {fs : List Addr} {H H' : Hp} {h h1 h2 B : Heap} (u : Un fs [] H H' h h1) (hok : HOk P w H' h1) (hB1 : B.StaysIn h1) (hB2 : B.StaysIn h2) (up : h1.UpToSlots h2)
    (hfr : ∀ b ∈ fs, ∃ o, h1.get? b = some o ∧ ∀ vs, o.data ≠ .fields vs) (frf : ∀ b ∈ fs, H' b = none)
    (old : ∀ b o, h1.get? b = some o → b ∉ fs → B.get? b = none → h.get? b = none ∧ H' b = none) :
    Un fs [] H H' h h2 ∧ HOk P w H' h2 ∧ ∀ b o, h2.get? b = some o → b ∉ fs → B.get? b = none → h.get? b = none ∧ H' b = none := by
  have in1 : ∀ b o, h1.get? b = some o → b ∉ fs → (h.get? b ≠ none ∨ H' b ≠ none) → h2.get? b = some o := fun b o e hb hn => by
    cases q : B.get? b with
    | none =>
      have z := old b o e hb q
      rcases hn with hn | hn
      · exact absurd z.1 hn
      · exact absurd z.2 hn
    | some o2 =>
      have := hB1 b o2 q
      rw [e] at this
      cases this
      exact hB2 b _ q
  have slots : ∀ b o, h1.get? b = some o → b ∈ fs → ∃ sl, h2.get? b = some { o with slots := sl } := fun b o e hb => by
    obtain ⟨o', e', hd⟩ := hfr b hb
    rw [e] at e'
    cases e'
    exact up b o e hd
  refine ⟨⟨fun b o e n hb hx => ?_, fun b o e n hb hx => ?_, u.free, fun b o e hx => ?_, u.tups, u.frzs, u.tbls⟩, fun a v e => ?_, fun b o e hb hB => ⟨?_, ?_⟩⟩
  · exact in1 b o (u.keep b o e n hb hx) hb (.inl (by rw [e]; exact fun z => nomatch z))
  · obtain ⟨sl, e1⟩ := u.slot b o e n hb hx
    obtain ⟨sl', e2⟩ := slots b _ e1 hb
    exact ⟨sl', e2⟩
  · obtain ⟨o', e1⟩ := u.there b o e hx
    by_cases hb : b ∈ fs
    · obtain ⟨sl, e2⟩ := slots b o' e1 hb
      exact ⟨_, e2⟩
    · exact ⟨o', in1 b o' e1 hb (.inl (by rw [e]; exact fun z => nomatch z))⟩
  · refine (hok a v e).stay (fun c v' hc q => in1 c v' q (fun z => ?_) (.inr ?_)) (fun _ q => q) fun _ _ q => q
    · have := frf c z
      rcases hc with rfl | hc
      · rw [e] at this; cases this
      · rw [hc] at this; cases this
    · rcases hc with rfl | hc
      · rw [e]; exact fun z => nomatch z
      · rw [hc]; exact fun z => nomatch z
  · cases q : h.get? b with
    | none => rfl
    | some o' =>
      obtain ⟨o2, e2⟩ := u.there b o' q (by simp)
      have := (old b o2 e2 hb hB).1
      rw [q] at this; cases this
  · cases q : H' b with
    | none => rfl
    | some v =>
      obtain ⟨o2, e2⟩ := objOk_there (hok b v q)
      have := (old b o2 e2 hb hB).2
      rw [q] at this; cases this
structure Own (X : Cx) : Prop where
  stk : X.stack = X.env :: X.outer
  frm : X.env.frame = some X.env.locals
  exs : X.ex = []
theorem Own.frs {X : Cx} (O : Own X) : L2.frs X.stack = X.env.locals :: X.fs := by
  rw [O.stk]
  unfold L2.frs
  rw [List.filterMap_cons, O.frm]
  rfl
theorem un_leave {X : Cx} {pins : List (Addr × Obj)} {σ : St} {H : Hp} {s : Shared} {h2 B : Heap} (O : Own X) (I : Inv X pins σ H s) (hB1 : B.StaysIn s.heap) (hB2 : B.StaysIn h2) (up : s.heap.UpToSlots h2)
    (old : ∀ b o, s.heap.get? b = some o → b ∉ frs X.stack → B.get? b = none → X.s₀.heap.get? b = none ∧ H b = none) :
    Un X.fs [] X.H₀ H X.s₀.heap h2 ∧ HOk X.prog X.w H h2 ∧ ∀ b o, h2.get? b = some o → b ∉ X.fs → B.get? b = none → X.s₀.heap.get? b = none ∧ H b = none := by
  have neL : ∀ b o, X.s₀.heap.get? b = some o → b ≠ X.env.locals := fun b o e => Nat.ne_of_lt (Nat.lt_of_lt_of_le (Heap.lt_size e) I.ok.above)
  have nofr : ∀ b, b ≠ X.env.locals → b ∉ X.fs → b ∉ frs X.stack := fun b h1 h2 z => by
    rw [O.frs] at z
    rcases List.mem_cons.mp z with z | z
    · exact h1 z
    · exact h2 z
  have in1 : ∀ b o, s.heap.get? b = some o → b ∉ frs X.stack → (X.s₀.heap.get? b ≠ none ∨ H b ≠ none) → h2.get? b = some o := fun b o e hb hn => by
    cases q : B.get? b with
    | none =>
      have z := old b o e hb q
      rcases hn with hn | hn
      · exact absurd z.1 hn
      · exact absurd z.2 hn
    | some o2 =>
      have := hB1 b o2 q
      rw [e] at this
      cases this
      exact hB2 b _ q
  have slots : ∀ b o, s.heap.get? b = some o → b ∈ X.fs → ∃ sl, h2.get? b = some { o with slots := sl } := fun b o e hb => by
    obtain ⟨_, o', e', hd⟩ := I.funs.mem hb
    rw [e] at e'
    cases e'
    exact up b o e hd
  have nx : ∀ b, b ∉ X.ex := fun b => by rw [O.exs]; simp
  refine ⟨⟨fun b o e n hb hx => ?_, fun b o e n hb hx => ?_, fun b o e n hx => I.base.free b o e n (nx b), fun b o e hx => ?_, I.base.tups, I.base.frzs, I.base.tbls⟩, fun a v e => ?_, fun b o e hb hB => ⟨?_, ?_⟩⟩
  · exact in1 b o (I.base.keep b o e n hb (nx b)) (nofr b (neL b o e) hb) (.inl (by rw [e]; exact fun z => nomatch z))
  · obtain ⟨sl, e1⟩ := I.base.slot b o e n hb (nx b)
    obtain ⟨sl', e2⟩ := slots b _ e1 hb
    exact ⟨sl', e2⟩
  · obtain ⟨o', e1⟩ := I.base.there b o e (nx b)
    by_cases hb : b ∈ X.fs
    · obtain ⟨sl, e2⟩ := slots b o' e1 hb
      exact ⟨_, e2⟩
    · exact ⟨o', in1 b o' e1 (nofr b (neL b o e) hb) (.inl (by rw [e]; exact fun z => nomatch z))⟩
  · refine (I.hok a v e).stay (fun c v' hc q => in1 c v' q (fun z => ?_) (.inr ?_)) (fun _ q => q) fun _ _ q => q
    · have := I.stkFree c z
      rcases hc with rfl | hc
      · rw [e] at this; cases this
      · rw [hc] at this; cases this
    · rcases hc with rfl | hc
      · rw [e]; exact fun z => nomatch z
      · rw [hc]; exact fun z => nomatch z
  · cases q : X.s₀.heap.get? b with
    | none => rfl
    | some o' =>
      obtain ⟨o2, e2⟩ := I.base.there b o' q (nx b)
      have := (old b o2 e2 (nofr b (neL b o' q) hb) hB).1
      rw [q] at this; cases this
  · cases q : H b with
    | none => rfl
    | some v =>
      obtain ⟨o2, e2⟩ := objOk_there (I.hok b v q)
      have nf : b ∉ frs X.stack := fun z => by rw [I.stkFree b z] at q; cases q
      have := (old b o2 e2 nf hB).2
      rw [q] at this; cases this
section
variable {X : Cx} {pins : List (Addr × Obj)} {σ : St} {H : Hp} {s s' : Shared} {ea : Addr} {cls : Value} {h' : Heap} {E : XK} {E2 : Value → Shared → Prop}
theorem leave_made {vs : List Value} (O : Own X) (I : Inv X pins σ H s) (mk : Heap.MadeExcOf s.heap h' ea cls vs) (h : E cls none H) :
    wpAny (model X.prog X.w) X.A (leaving X.env (.ref ea)) (fun _ s'' => CXE X.prog X.w X.outer X.H₀ X.s₀ E (.ref ea) s'') E2 { s with heap := h' } := by
  have hin : ∀ env ∈ X.stack, ∀ b, env.frame = some b → b ∈ frs X.stack := fun env he b hb => List.mem_filterMap.mpr ⟨env, he, hb⟩
  have hl : s.heap.FunFrames (PySem.W.hideAll s.heap (frs X.stack)) X.stack := PySem.W.funFrames_hide I.stack hin
  rw [O.stk] at hl
  have hB1 : (PySem.W.hideAll s.heap (frs X.stack)).StaysIn s.heap := fun b o q => PySem.W.of_hideAll _ q
  have hH : H ea = none := by
    cases q : H ea with
    | none => rfl
    | some v =>
      obtain ⟨o, e⟩ := objOk_there (I.hok ea v q)
      rw [mk.new] at e; cases e
  obtain ⟨t, he, htn, ht⟩ := mk.there
  have hl' : h'.FunFrames (PySem.W.hideAll s.heap (frs X.stack)) (X.env :: X.outer) := by
    rw [O.stk] at *
    exact hl.of_keeps fun b o hb _ => ⟨o, mk.keeps b o hb, rfl⟩
  refine wpAny_mono (any_both (E' := E2) (wpAny_leaves_madeW (E := E2) (Q := fun _ s'' => ∃ (a0 : Value) (B : Heap) (H' : Hp), H' = H ∧ s''.os = X.s₀.os ∧ AllBare s''.gens ∧ Un (frs X.outer) [] X.H₀ H' X.s₀.heap s''.heap ∧ HOk X.prog X.w H' s''.heap ∧ H' ea = none ∧ X.s₀.heap.get? ea = none ∧
      Heap.FlyingW B X.outer ea cls a0 s''.heap ∧ (∀ b o, s''.heap.get? b = some o → b ∉ frs X.outer → B.get? b = none → X.s₀.heap.get? b = none ∧ H' b = none))
    (s := { s with heap := h' }) (base := PySem.W.hideAll s.heap (frs X.stack)) (by rw [I.ok.frames, O.stk]) O.frm hB1 (by rw [O.stk] at *; exact hl) mk fun h'' t fl tu tn up => ?_)
    (first_dict (E := E2) (s := { s with heap := h' }) (by rw [I.ok.frames, O.stk]) hl' O.frm he rfl rfl rfl)) (fun _ s'' z => ?_) (fun _ _ z => z.1)
  · have up2 : s.heap.UpToSlots h'' := (Heap.UpToSlots.of_keeps mk.keeps).trans up
    obtain ⟨u, hok, old⟩ := un_leave O I hB1 fl.1 up2 (fun b o e hb hB => by
      rw [PySem.W.hideAll_get _ e hb] at hB; cases hB)
    have hs0 : X.s₀.heap.get? ea = none := by
      cases q : X.s₀.heap.get? ea with
      | none => rfl
      | some o =>
        obtain ⟨o', e⟩ := I.base.there ea o q (by rw [O.exs]; simp)
        rw [mk.new] at e; cases e
    exact ⟨_, _, H, rfl, I.os, I.bare, u, hok, hH, hs0, fl, old⟩
  · obtain ⟨⟨a0, B, H', rfl, z⟩, hd⟩ := z
    exact ⟨ea, cls, a0, B, H', none, hd, rfl, z.1, z.2.1, z.2.2.1, z.2.2.2.1, z.2.2.2.2.1, z.2.2.2.2.2.1, z.2.2.2.2.2.2.1, z.2.2.2.2.2.2.2, h⟩
theorem leave_dict {oe : Obj} {vs : Array Value} {a0 : Value} (O : Own X) (I : Inv X pins σ H s) (he : s.heap.get? ea = some oe) (hd : oe.data = .fields vs) (h0 : vs[0]? = some a0) (h1 : vs[1]? = some .none) (h2 : vs[2]? = some .none) (hH : H ea = none) (hs0 : X.s₀.heap.get? ea = none) (h : E oe.cls oe.dict H) :
    wpAny (model X.prog X.w) X.A (leaving X.env (.ref ea)) (fun _ s'' => CXE X.prog X.w X.outer X.H₀ X.s₀ E (.ref ea) s'') E2 s := by
  have hin : ∀ env ∈ X.stack, ∀ b, env.frame = some b → b ∈ ea :: frs X.stack := fun env he b hb => List.mem_cons_of_mem _ (List.mem_filterMap.mpr ⟨env, he, hb⟩)
  have hl : s.heap.FunFrames (PySem.W.hideAll s.heap (ea :: frs X.stack)) X.stack := PySem.W.funFrames_hide I.stack hin
  have hB1 : (PySem.W.hideAll s.heap (ea :: frs X.stack)).StaysIn s.heap := fun b o q => PySem.W.of_hideAll _ q
  have hB : (PySem.W.hideAll s.heap (ea :: frs X.stack)).get? ea = none := PySem.W.hideAll_none _ (List.mem_cons_self ..)
  have hfr : X.A.frames = some (X.env :: X.outer) := by rw [I.ok.frames, O.stk]
  have hl2 : s.heap.FunFrames (PySem.W.hideAll s.heap (ea :: frs X.stack)) (X.env :: X.outer) := by rw [O.stk] at hl ⊢; exact hl
  refine wpAny_mono (any_both (E' := E2) (wpAny_leaving_firstW (E := E2) (Q := fun _ s'' => ∃ (B : Heap), s''.os = X.s₀.os ∧ AllBare s''.gens ∧ Un (frs X.outer) [] X.H₀ H X.s₀.heap s''.heap ∧ HOk X.prog X.w H s''.heap ∧
      Heap.FlyingW B X.outer ea oe.cls a0 s''.heap ∧ (∀ b o, s''.heap.get? b = some o → b ∉ frs X.outer → B.get? b = none → X.s₀.heap.get? b = none ∧ H b = none))
    hfr hl2 O.frm he hB1 hB hd h1 h0 fun h'' hL => ?_) (first_dict (E := E2) hfr hl2 O.frm he hd h1 h2)) (fun _ s'' z => ?_) (fun _ _ z => z.1)
  · obtain ⟨k1, ⟨_, _, k2⟩, k3, k4⟩ := hL
    obtain ⟨u, hok, old⟩ := un_leave O I hB1 k1 k4 (fun b o e hb hBb => by
      by_cases hbe : b = ea
      · rw [hbe]; exact ⟨hs0, hH⟩
      · rw [PySem.W.hideAll_get _ e (fun z => by rcases List.mem_cons.mp z with z | z; exact hbe z; exact hb z)] at hBb; cases hBb)
    exact ⟨_, I.os, I.bare, u, hok, ⟨k1, hB, k2, k3⟩, old⟩
  · obtain ⟨⟨B, z⟩, hdi⟩ := z
    exact ⟨ea, oe.cls, a0, B, H, oe.dict, hdi, rfl, z.1, z.2.1, z.2.2.1, z.2.2.2.1, hH, hs0, z.2.2.2.2.1, z.2.2.2.2.2, h⟩
theorem leave_on {Hc : Hp} {e : Value} (O : Own X) (I : Inv X pins σ Hc s) (h : CXE X.prog X.w X.stack Hc s E e s') :
    wpAny (model X.prog X.w) X.A (leaving X.env e) (fun _ s'' => CXE X.prog X.w X.outer X.H₀ X.s₀ E e s'') E2 s' := by
  obtain ⟨ea, cls, a0, B, H', od, di, rfl, os, bare, u, hok, hea, hsc, fl, old, hE⟩ := h
  have I1 : Inv X pins σ H' s' := I.call' os u hok bare fun b z => absurd z (by simp)
  have fl' := fl
  rw [O.stk] at fl'
  have hfr : X.A.frames = some (X.env :: X.outer) := by rw [I.ok.frames, O.stk]
  refine wpAny_mono (any_both (E' := E2) (wpAny_leaves_onW (E := E2) (Q := fun _ s'' => s''.os = X.s₀.os ∧ AllBare s''.gens ∧ Un (frs X.outer) [] X.H₀ H' X.s₀.heap s''.heap ∧ HOk X.prog X.w H' s''.heap ∧
      Heap.FlyingW B X.outer ea cls a0 s''.heap ∧ (∀ b o, s''.heap.get? b = some o → b ∉ frs X.outer → B.get? b = none → X.s₀.heap.get? b = none ∧ H' b = none))
    hfr O.frm fl' fun h'' fl2 up => ?_) (next_dict (E := E2) hfr fl'.2.2.1 O.frm fl'.2.2.2 di fl'.2.1)) (fun _ s'' z => ?_) (fun _ _ z => z.1)
  · obtain ⟨u2, hok2, old2⟩ := un_leave O I1 fl.1 fl2.1 up (fun b o e hb hB => by
      obtain ⟨z1, z2⟩ := old b o e hb hB
      refine ⟨?_, z2⟩
      cases q : X.s₀.heap.get? b with
      | none => rfl
      | some o' =>
        obtain ⟨o2, e2⟩ := I.base.there b o' q (by rw [O.exs]; simp)
        rw [z1] at e2; cases e2)
    exact ⟨I1.os, I1.bare, u2, hok2, fl2, old2⟩
  · obtain ⟨z, hdi⟩ := z
    have hs0 : X.s₀.heap.get? ea = none := by
      cases q : X.s₀.heap.get? ea with
      | none => rfl
      | some o =>
        obtain ⟨o', e⟩ := I.base.there ea o q (by rw [O.exs]; simp)
        rw [hsc] at e; cases e
    exact ⟨ea, cls, a0, B, H', od, hdi, rfl, z.1, z.2.1, z.2.2.1, z.2.2.2.1, hea, hs0, z.2.2.2.2.1, z.2.2.2.2.2, hE⟩
end
end L2
set_option maxRecDepth 100000
namespace L2
open PySem PySem.Spec PyProof.Rows
def ThrOn (X : Cx) (W : St → XK) : Prop := ∀ (pins : List (Addr × Obj)) (σ : St) (H : Hp) (s : Shared) (e : Value) (s' : Shared), Inv X pins σ H s → CXE X.prog X.w X.stack H s (W σ) e s' → X.xe e s'
def ThrMade (X : Cx) (W : St → XK) : Prop := ∀ (pins : List (Addr × Obj)) (σ : St) (H : Hp) (s : Shared) (h' : Heap) (ea : Addr) (cls : Value) (vs : List Value), Inv X pins σ H s → Heap.MadeExcOf s.heap h' ea cls vs → W σ cls none H → X.xe (.ref ea) { s with heap := h' }
def ThrDict (X : Cx) (W : St → XK) : Prop := ∀ (pins : List (Addr × Obj)) (σ : St) (H : Hp) (s : Shared) (ea : Addr) (oe : Obj) (vs : Array Value) (a0 : Value), Inv X pins σ H s → s.heap.get? ea = some oe → oe.data = .fields vs → vs[0]? = some a0 → vs[1]? = some .none → vs[2]? = some .none → H ea = none → X.s₀.heap.get? ea = none → W σ oe.cls oe.dict H → X.xe (.ref ea) s
section
variable {P : Program} {w : World} {K : PySem.W.Frag} {mg : Str → Option Value} {base : Heap} {N : List Str} {qual : Str} {scope : Scope} {f : Addr} {cd : Value} {A : Around} {outer : List Env} {s : Shared} {H : Hp} {E : XK}
theorem own_def {CX : CXT} : Own (cxOf CX P w K mg base N qual scope f cd A outer s H E) := ⟨rfl, rfl, rfl⟩
theorem on_def : ThrOn (cxOf (CXE P w) P w K mg base N qual scope f cd A outer s H E) (fun _ => E) := fun pins σ Hc sc e s' I h => leave_on own_def I h
theorem made_def : ThrMade (cxOf (CXE P w) P w K mg base N qual scope f cd A outer s H E) (fun _ => E) := fun pins σ Hc sc h' ea cls vs I mk h => leave_made own_def I mk h
theorem dict_def : ThrDict (cxOf (CXE P w) P w K mg base N qual scope f cd A outer s H E) (fun _ => E) := fun pins σ Hc sc ea oe vs a0 I he hd h0 h1 h2 hH hs h => leave_dict own_def I he hd h0 h1 h2 hH hs h
theorem Fun.okX {x : Str} {st : Stmt} {fd : FuncData} {ps : List Str} {k : Nat} {sp : Sp} (F : Fun K x qual st f fd) (S : FnScope N ps (defScope st)) (len : ∀ vs H Q E, sp vs H Q E → vs.length = ps.length)
    (hbody : ∀ (cdv : Value) (A : Around) (outer : List Env) (s : Shared) (H : Hp) (vs : List V) (Q : VK) (E : XK), Room k (A.deeper (envOfC qual (defScope st) s.heap.objs.size f cdv)) → sp vs H Q E →
      ∃ t, PSs (cxOf (CXE P w) P w K mg base N qual (defScope st) f cdv A outer s H E) (defBody st) t ∧ t { nx := fun _ H' => Q .non H', rt := Q } (start N vs) H) : FnOk P w K mg base (CXE P w) (k + 1) f fd ps sp := by
  obtain ⟨oc, od, kV, doc, pm, an, cdv, ct, osl, rfl, lk, hcd⟩ := F.ex
  exact fn_of lk hcd S len fun A outer s H vs Q E hr hsp => hbody cdv A outer s H vs Q E hr hsp
end
theorem PS.nox {X : Cx} {st : Stmt} {t : TS} (h : PS X.nox st t) : PS X st t := fun pins s σ H D I hw =>
  wpAny_mono (h pins s σ H D (I.wish _) hw) (fun _ _ q => q.unwish) fun _ _ z => False.elim z
def DfX (P : Program) (w : World) (K : PySem.W.Frag) (mg : Str → Option Value) (base : Heap) (k : Nat) (x : Str) (ps : List Str) (sp : Sp) : Prop :=
  ∃ f fd, mg x = some (.ref f) ∧ PySem.W.keepIn K (.ref f) = true ∧ Binds K fd ps [] ∧ FnOk P w K mg base (CXE P w) k f fd ps sp
def DmX (P : Program) (w : World) (K : PySem.W.Frag) (mg : Str → Option Value) (base : Heap) (k : Nat) (C : Addr) (m : Str) (ps : List Str) (sp : Sp) : Prop :=
  ∃ f fd, Cls K C ∧ Meth K C m f ∧ Binds K fd ps [] ∧ FnOk P w K mg base (CXE P w) k f fd ps sp
section
variable {X : Cx} {k : Nat} {C : Addr} {ps : List Str} {sp : Sp} {x m : Str} {p pos apos : Pos} {e o : Expr} {es : List Expr} {ta : TE} {t : TA} {W : St → XK} {f : Addr} {fd : FuncData}
def tCallX (sp : Sp) (W : St → XK) (t : TA) : TE := fun σ H Q => t σ H fun vs H1 => sp vs H1 Q (W σ)
def tMethX (C : Addr) (m : Str) (sp : Sp) (W : St → XK) (ta : TE) (t : TA) : TE := fun σ H Q => ta σ H fun x H1 => ∃ a dx fs, x = .ref a ∧ H1 a = some (.ins C dx fs) ∧ fs.lookup m = none ∧ t σ H1 fun vs H2 => sp (x :: vs) H2 Q (W σ)
theorem run_fnX {pins : List (Addr × Obj)} {σ : St} {H : Hp} {s : Shared} {Q : VK} {us : List Value} {vs : List V} (F : FnOk X.prog X.w X.K X.mg X.base (CXE X.prog X.w) k f fd ps sp) (hr : Room k X.A) (hb : Binds X.K fd ps []) (hx : ThrOn X W)
    (I : Inv X pins σ H s) (r : Vals vs us) (h : sp vs H Q (W σ)) : wpAny (model X.prog X.w) X.A (call (.ref f) us) (EP X pins σ Q) X.xe s := by
  have hl : (us ++ []).length = ps.length := by rw [List.append_nil, ← r.length]; exact F.len _ _ _ _ h
  have hb' := hb s us I.kIn hl
  rw [List.append_nil] at hb'
  refine wpAny_call (codeAny_mono (F.run X.A X.stack s H ⟨us, []⟩ us vs Q (W σ) hr I.env0 hb' r h) fun r s' hq => ?_)
  cases r with
  | error e => exact hx pins σ H s e s' I hq
  | ok fl =>
    cases fl with
    | ret u => exact I.after hq
    | next => exact False.elim hq
    | brk => exact False.elim hq
    | cont => exact False.elim hq
theorem pe_callX (hx : ThrOn X W) (D : DfX X.prog X.w X.K X.mg X.base k x ps sp) (hr : Room k X.A) (hg : Gl X x)
    (ha : PA X (e :: es) t) (hdb : (x == ("__debug__" : Str)) = false := by decide) (he : starEach (e :: es) X.env = (false, eval e X.env) :: starEach es X.env := by rfl) (hpl : (backTo pos (starEach es X.env)).any (·.1) = false := by rfl) :
    PE X (.Call (.Name x p) (e :: es) [] pos) (tCallX sp W t) := by
  obtain ⟨f, fd, hm, hk, hb, F⟩ := D
  intro pins s σ H Q I h
  refine wpAny_Call_Name_kw (ld_glob I hg hm ?_ hdb)
  refine PySem.W.callWith_K (h₀ := X.base) I.ok.mod.kin hk (thn (ha pos pins s σ H _ I h) fun us s1 ⟨vs, H1, I1, r, q⟩ => ⟨I1.kIn, ?_⟩) he hpl
  exact run_fnX F hr hb hx I1 r q
theorem pe_methX {pl : Sem Bool} (hx : ThrOn X W) (he : PE X o ta) (D : DmX X.prog X.w X.K X.mg X.base k C m ps sp) (hr : Room k X.A) (ha : PA X (e :: es) t)
    (hst : starEach (e :: es) X.env = (false, eval e X.env) :: starEach es X.env := by rfl) (hpl : (backTo pos (starEach es X.env)).any (·.1) = false := by rfl)
    (ht : eval (.Call (.Attribute o m apos) (e :: es) [] pos) X.env = (do
      let ov ← eval o X.env
      standAt apos.atName
      let (f, first) ← holding [ov] (getMethod ov m pl)
      callWith pos f first (backTo pos (starEach (e :: es) X.env)) (backToKw pos (keywordEach [] X.env))) := by rfl) :
    PE X (.Call (.Attribute o m apos) (e :: es) [] pos) (tMethX C m sp W ta t) := by
  obtain ⟨f, fd, cl, hm, hb, F⟩ := D
  intro pins s σ H Q I h
  refine PySem.W.methodCall_KW (pl := pl) (thn (he pins s σ H _ I h) fun u s1 ⟨x, H1, I1, rx, a, dx, fs, ex, ea, l, q⟩ => ?_) ht
  subst ex
  obtain rfl : u = Value.ref a := rx
  refine getmeth_ok I1 ea cl hm l ?_
  refine PySem.W.callWith_K (first := [.ref a]) (h₀ := X.base) I.ok.mod.kin hm.kp (thn (ha pos pins s1 σ H1 _ I1 q) fun us s2 ⟨vs, H2, I2, r, q2⟩ => ⟨I2.kIn, ?_⟩) hst hpl
  exact run_fnX (us := .ref a :: us) (vs := .ref a :: vs) F hr hb hx I2 (.cons rfl r) q2
end
abbrev mroVE : List Value := [.type "ValueError", .type "Exception", .type "BaseException", .type "object"]
theorem exc_obj {K : PySem.W.Frag} {h : Heap} {C : Addr} {bmB : List Value} {newId : String} (X : K.In h) (q : PySem.W.excIn K C bmB newId = true) :
    ∃ bm N nm q bs hdct sn sub ab col dd k0 k1 k2 k3 k5 mN, h.get? C = some (excClassObj nm q C N bs bm hdct sn sub ab col dd k0 k1 k2 k3 k5 newId) ∧ h.Ns N mN ∧ mN "__init__" = none ∧ OwnTail h bmB bm := by
  unfold PySem.W.excIn at q
  split at q
  · rename_i dd cd sl ho
    split at q
    · rename_i C' bm k0 k1 k2 k3 n k5 hm hs
      simp only [Bool.and_eq_true, beq_iff_eq, Bool.not_eq_true'] at q
      obtain ⟨⟨⟨⟨⟨rfl, rfl⟩, hdel⟩, ht⟩, hok⟩, hni⟩ := q
      obtain ⟨nm, bs, mro, ns, qn, hd, sn, sub, ab, col, del⟩ := cd
      dsimp only at hm hdel hok hni
      subst hm hdel
      have hsl : sl = #[k0, k1, k2, k3, some (.builtin n), k5] := by
        obtain ⟨l⟩ := sl
        simp only at hs
        rw [hs]
      subst hsl
      exact ⟨bm, ns, nm, qn, bs, hd, sn, sub, ab, col, dd, k0, k1, k2, k3, k5, _, X _ _ ho, .of_isNs (PySem.W.isNs_of_in X hok), PySem.W.nsMap_none_of_in X hok hni, PySem.W.tail_of_in X ht⟩
    · cases q
  · cases q
def tRaise (W : St → XK) (C : Addr) : TS := fun _ σ H => W σ (.ref C) none H
theorem ps_raise0 {X : Cx} {W : St → XK} {x : Str} {C : Addr} {np cpos pos : Pos} (hc : X.calm = true) (hw : ThrMade X W) (hg : Gl X x) (hm : X.mg x = some (.ref C)) (q : PySem.W.excIn X.K C mroVE "ValueError.__new__" = true)
    (hdb : (x == ("__debug__" : Str)) = false := by decide) : PS X (.Raise (some (.Call (.Name x np) [] [] cpos)) none pos) (tRaise W C) := by
  intro pins s σ H D I h
  obtain ⟨tl, N, nm, qn, bs, hdct, sn, sub, ab, col, dd, k0, k1, k2, k3, k5, mN, hC, hN, hni, T⟩ := exc_obj I.kIn q
  refine wpAny_Raise_call_subT (C := C) (nm := nm) (q := qn) (N := N) (bs := bs) (bm := tl) (hdct := hdct) (sn := sn) (sub := sub) (ab := ab) (col := col) (dd := dd) (k0 := k0) (k1 := k1) (k2 := k2) (k3 := k3) (k5 := k5)
    PySem.F.excBase_ValueError (mN := mN) (T.hasType PySem.F.excBase_ValueError.hasBase) (I.ok.hd hc) rfl hni (ld_glob I hg hm ⟨rfl, ?_⟩ hdb)
  exact evalArgs_empty ⟨rfl, Nat.zero_le _, hC, hN, T, fun h' e mk => hw pins σ H s h' e _ _ I mk h⟩
end L2
set_option maxRecDepth 100000
namespace L2
open PySem PyProof.Rows
def tupO (us : List Value) : Obj := { cls := .type "tuple", data := .seq us.toArray }
def errO (C t : Addr) : Obj := { cls := .ref C, data := .fields #[.ref t, .none, .none, .none, .bool false, .none] }
def laidE (h : Heap) (C : Addr) (us : List Value) : Heap := (h.push (tupO us)).push (errO C h.objs.size)
theorem laidE_old {h : Heap} {C : Addr} {us : List Value} : ∀ b o, h.get? b = some o → (laidE h C us).get? b = some o := fun _ _ e => Heap.get?_push_of_some _ (Heap.get?_push_of_some _ e)
theorem laidE_err {h : Heap} {C : Addr} {us : List Value} : (laidE h C us).get? (h.objs.size + 1) = some (errO C h.objs.size) := by
  unfold laidE errO tupO
  heap_get
theorem laidE_made {h : Heap} {C : Addr} {us : List Value} : Heap.MadeExcOf h (laidE h C us) (h.objs.size + 1) (.ref C) us :=
  ⟨laidE_old, Heap.get?_none_of_le (Nat.le_succ _), h.objs.size, laidE_err, Heap.get?_none_of_le (Nat.le_refl _), Heap.get?_push_of_some _ (Heap.get?_push_at rfl rfl)⟩
section
variable {P : Program} {w : World} {A : Around} {E : Value → Shared → Prop} {s : Shared}
variable {nm q : Str} {C N fI : Addr} {bs bm tl : List Value} {hd ab : Bool} {sn : List Str} {sub us : List Value} {col : Option Bool} {dd : Option Addr} {k0 k1 k2 k3 k5 : Option Value} {B newId initId : String} {mN : Str → Option Value} {oI : Obj}
theorem type_call_own {Q : Fin → Shared → Prop} (F : ExcBaseFacts B newId initId bm) (T : OwnTail s.heap bm tl) (hC : s.heap.get? C = some (excClassObj nm q C N bs tl hd sn sub ab col dd k0 k1 k2 k3 k5 newId)) (hN : s.heap.Ns N mN) (hI : mN "__init__" = some (.ref fI)) (hf : s.heap.get? fI = some oI) (hfc : oI.cls = .type "function") (hz : us.length ≤ sizeLine)
    (k : ∀ h' e, Heap.MadeExcOf s.heap h' e (.ref C) us → wpAny (model P w) A (call (.ref fI) (.ref e :: us)) (fun r s' => r = .none ∧ Q (.done (.ret (.ref e))) s') E { s with heap := h' }) :
    wpAny (model P w) A (Builtin.«type.__call__» ⟨.ref C :: us, []⟩) Q E s := by
  obtain ⟨h, g, d, t, os⟩ := s
  repeat (first | with_reducible refine wpAny_madeBy_exc hC ?_ | with_reducible refine wpAny_loadPart_at hC ?_ | wp_step)
  refine codeAny_call_builtin_code (Code.quiet_builtin _ F.quiet) (wpAny_check_new_subT F T hC (codeAny_exc_new_subT F T hC ?_ hz))
  show wpAny _ _ _ _ _ ⟨laidE h C us, g, d, t, os⟩
  have hC' := laidE_old (C := C) (us := us) C _ hC
  have hme : (Value.ref C :: tl).contains (.ref C) = true := by simp
  have hN' : (laidE h C us).Ns N mN := by
    obtain ⟨o, es, ep, e, r⟩ := hN
    exact ⟨o, es, ep, laidE_old _ _ e, r⟩
  have hx := laidE_err (h := h) (C := C) (us := us)
  unfold errO at hx
  unfold isInstance
  repeat (first | (with_reducible refine wpAny_isSubtype_exc hC' ?_; rw [hme]) | with_reducible refine wpAny_loadPart_at hx ?_ | wp_step)
  show wpAny _ _ (typeLookup (.ref C) _) _ _ _
  refine wpAny_typeLookup_tail hC' hN' (T.keeps laidE_old) F.mroIs F.init.lookup ?_
  rw [hI]
  refine wpAny_holding (wpAny_bind ?_)
  unfold bindSpecial
  refine wpAny_bind (wpAny_typeOf (T := "function") ⟨_, laidE_old _ _ hf, hfc⟩ ?_)
  rw [if_pos (by decide)]
  refine wpAny_pure (wpAny_bind (wpAny_mono (k _ _ laidE_made) (fun r s' hr => ?_) fun _ _ x => x))
  obtain ⟨rfl, hQ⟩ := hr
  wp_walk
  exact hQ
theorem call_own {Q : Value → Shared → Prop} (F : ExcBaseFacts B newId initId bm) (T : OwnTail s.heap bm tl) (hC : s.heap.get? C = some (excClassObj nm q C N bs tl hd sn sub ab col dd k0 k1 k2 k3 k5 newId)) (hN : s.heap.Ns N mN) (hI : mN "__init__" = some (.ref fI)) (hf : s.heap.get? fI = some oI) (hfc : oI.cls = .type "function") (hz : us.length ≤ sizeLine)
    (k : ∀ h' e, Heap.MadeExcOf s.heap h' e (.ref C) us → wpAny (model P w) (A.under (.builtin "type.__call__" ⟨.ref C :: us, []⟩)) (call (.ref fI) (.ref e :: us)) (fun r s' => r = .none ∧ Q (.ref e) s') E { s with heap := h' }) :
    wpAny (model P w) A (call (.ref C) us) Q E s := by
  have f1 := tc_lookup
  have f2 := tc_bind (.ref C)
  have hT : s.TypeIs (.ref C) "type" := ⟨_, hC, rfl⟩
  obtain ⟨h, g, d, t, os⟩ := s
  refine wpAny_call (codeAny_of_tree ?_)
  show wpAny _ _ (callAny (.ref C) _) _ _ _
  repeat (any_goals (first | with_reducible refine wpAny_loadPart_at hC ?_ | assumption | wp_step))
  exact ⟨rfl, codeAny_call_builtin_at (Code.quiet_builtin _ (by decide +kernel)) entry_typeCall (wpAny_check_type_call_sub hC (type_call_own F T hC hN hI hf hfc hz fun h' e mk => k h' e mk))⟩
end
end L2
set_option maxRecDepth 100000
namespace L2
open PySem PySem.Spec PySem.Calls PySem.W PyProof.Rows
open PySem.Builtin PySem.Builtin.ObjectAttr
def onlyVE : List Value → Bool
  | [] => false
  | .ref _ :: r => onlyVE r
  | v :: r => (v :: r) == mroVE
theorem ve_nil {l : List Value} (h : (l == mroVE) = true) : l = mroVE := beq_iff_eq.mp h
theorem refuse_ve (self : Value) : ∀ (l : List Value), onlyVE l = true → refuseLoop self "__setattr__" l = pure ()
  | [], e => by cases e
  | v :: r, e => by
    cases v
    case ref c => rw [refuseLoop_ref]; exact refuse_ve self r e
    all_goals
      have e' := ve_nil e
      rw [e']
      exact F.store_ValueError.passes self
theorem ve_has : ∀ (l : List Value), onlyVE l = true → l.contains (.type "object") = true
  | [], e => by cases e
  | v :: r, e => by
    cases v
    case ref c => rw [List.contains_cons, ve_has r e, Bool.or_true]
    all_goals
      have e' := ve_nil e
      rw [e']
      decide
def excOver (K : Frag) (C : Addr) : Bool := (clsIn K C).any fun cd => onlyVE cd.mro
section
variable {prog : Program} {w : World} {A : Around} {s : Shared} {K : Frag} {x C : Addr} {R : Result → Shared → Prop}
theorem osa_exc {ox : Obj} {vs : Array Value} {name : Str} {tk : Tok} {v : Value} (X : K.In s.heap) (hx : s.heap.get? x = some ox) (hcl : ox.cls = .ref C) (hdat : ox.data = .fields vs) (hdn : ox.dict = none)
    (hp : excOver K C = true) (ht : takerIn K C name = some none) (hh : hasDictIn K C = true)
    (h : ∀ h' tk', h'.get? x = some { ox with dict := some s.heap.objs.size } → h'.Ns1 s.heap.objs.size (fun y => if y = name then some v else none) → (∀ b o, b ≠ x → s.heap.get? b = some o → h'.get? b = some o) → R (.ok (.ret .none)) { s with heap := h', toks := tk' }) :
    codeAny (model prog w) A (.call (.builtin "object.__setattr__") ⟨[.ref x, .str name tk, v], []⟩) R s := by
  have SF := PySem.F.store_object
  have I : InstAt s.heap x ox C none := ⟨hx, hcl, by unfold notCls; rw [hdat], by rw [hdn]; trivial⟩
  obtain ⟨cd, hc, ho⟩ := any_some hp
  have ne : cd.mro.isEmpty = false := by cases q : cd.mro with | nil => rw [q] at ho; cases ho | cons _ _ => rfl
  have sub : Looks (model prog w) s.heap (isInstance (.ref x) (.type "object")) true := I.type.andThen (looks_mroIn X (by unfold mroIn; rw [hc, Option.bind_some, if_neg (by rw [ne]; decide), ve_has _ ho]))
  refine codeAny_call_builtin SF.slot.plain SF.entry (@check_slot (model prog w) _ _ s "object.__setattr__" "object" "__setattr__" (.ref x) [.str name tk, v] [] _ SF.kind SF.split sub (SF.args (.ref x) (.str name tk) v) ?_)
  obtain ⟨attr, ha, hr⟩ := Option.bind_eq_some_iff.mp ht
  have hm : Looks (model prog w) s.heap (mroOf (.ref C)) cd.mro := (looks_clsIn X hc).andThen .now
  have L3 : Looks (model prog w) s.heap (storeTaker? attr) none := by
    cases attr with
    | none => exact .now
    | some a =>
      obtain ⟨b, hb, e⟩ := Option.map_eq_some_iff.mp hr
      refine (looks_takesIn X hb).andThen ?_
      cases b with
      | true => cases e
      | false => exact .now
  rw [osa_eq, refuse_eq]
  refine wpAny_bind (wpAny_bind (I.type.here (wpAny_bind (hm.here ?_))))
  rw [refuse_ve _ _ ho]
  refine wpAny_pure (wpAny_bind (I.type.here (wpAny_bind ((looks_findIn X ha).here (wpAny_bind (L3.here ?_))))))
  obtain ⟨cd2, hc2, hd'⟩ := any_some hh
  obtain ⟨hp0, g, d, t, os⟩ := s
  obtain ⟨oc, odi, oda, osl⟩ := ox
  dsimp only at hcl hdat hdn
  subst hcl hdat hdn
  refine wpAny_bind (wpAny_pure (wpAny_bind (wpAny_bind (wpAny_loadPart hx (wpAny_bind ((looks_clsIn X hc2).here ?_))))))
  rw [hd']
  have hx₁ : (hp0.push { cls := .type "dict", data := .dict #[] }).get? x = some { cls := .ref C, data := .fields vs, slots := osl } := Heap.get?_push_of_some _ hx
  have hxs : x ≠ hp0.objs.size := Nat.ne_of_lt (Heap.lt_size hx)
  refine wpAny_bind (wpAny_alloc' ?_)
  refine wpAny_bind (wpAny_update' hx₁ ?_)
  refine wpAny_pure ?_
  have hgd : ((hp0.push { cls := .type "dict", data := .dict #[] }).update x fun o => { cls := o.cls, dict := some hp0.objs.size, data := o.data, slots := o.slots }).get? hp0.objs.size
      = some { cls := .type "dict", data := .dict #[] } :=
    (Heap.get?_update_ne _ _ _ _ hxs.symm).trans (Heap.get?_push_at rfl rfl)
  have hnd : ((hp0.push { cls := .type "dict", data := .dict #[] }).update x fun o => { cls := o.cls, dict := some hp0.objs.size, data := o.data, slots := o.slots }).Ns hp0.objs.size (fun _ => none) :=
    ⟨_, #[], _, hgd, rfl, fun e he => absurd he (by simp), fun _ => rfl⟩
  show wpAny _ _ (storeInDict hp0.objs.size (.str name tk) name v) _ _ _
  unfold storeInDict newKeyGuard
  refine wpAny_bind (wpAny_pure (wpAny_bind (wpAny_nsSet1 (Heap.Ns1.of_empty hnd) fun h' hn' hs => ?_)))
  obtain ⟨oD, esD, epD, hoD, hdD, hcD⟩ := hn'.count (Within.cons name v Within.nil)
  refine wpAny_bind (wpAny_lookBehind hoD (by rw [hdD]; exact pastItsLine_dict (Nat.le_trans hcD (by rw [List.length_cons, List.length_nil, sizeLine_eq]; omega))) ?_)
  refine wpAny_pure (h h' _ ?_ hn' fun b ob hbx hb => ?_)
  · exact (hs.2 x hxs).trans (Heap.get?_update_self _ hx₁ rfl)
  · exact (hs.2 b (Nat.ne_of_lt (Heap.lt_size hb))).trans ((Heap.get?_update_ne _ _ _ _ hbx).trans (Heap.get?_push_of_some _ hb))
end
end L2
set_option maxRecDepth 100000
namespace L2
open PySem PySem.Spec PySem.Calls PySem.W PyProof.Rows
def excP2 (ea C : Addr) (od : Option Addr) (h : Heap) : Prop := ∃ o vs a0, h.get? ea = some o ∧ o.cls = .ref C ∧ o.data = .fields vs ∧ vs[0]? = some a0 ∧ vs[1]? = some .none ∧ o.dict = od ∧ vs[2]? = some .none ∧ 4 < vs.size
def excN (ea C : Addr) : HO := .ext (excP2 ea C none)
def excM (ea C dx : Addr) : HO := .ext (excP2 ea C (some dx))
theorem exc_ok {P : Program} {w : World} {H : Hp} {h : Heap} {ea C : Addr} {od : Option Addr} (x : excP2 ea C od h) : ObjOk P w H h ea (.ext (excP2 ea C od)) := by
  obtain ⟨o, vs, a0, ho, r⟩ := id x
  exact ⟨x, ⟨o, ho⟩, fun h1 h2 ⟨o1, vs1, a1, q1, q2⟩ k => ⟨o1, vs1, a1, k o1 q1, q2⟩⟩
theorem hide_at {l : Addr} {H : Hp} : hide l H l = none := if_pos rfl
structure ExcF (K : Frag) (C : Addr) (f : Str) : Prop where
  sa : findIn K (.ref C) "__setattr__" = some (some (.builtin "object.__setattr__"))
  ov : excOver K C = true
  tk : takerIn K C f = some none
  hd : hasDictIn K C = true
section
variable {X : Cx} {pins : List (Addr × Obj)} {σ : St} {H : Hp} {s : Shared}
theorem setE_ok {A : Around} {E : Value → Shared → Prop} {ea C : Addr} {f : Str} {y : V} {u : Value} {Q : Unit → Shared → Prop} (I : Inv X pins σ H s) (e : H ea = some (excN ea C)) (T : ExcF X.K C f) (ry : RelV y u)
    (h : ∀ dx s', H dx = none → dx ≠ ea → Inv X pins σ (upd (upd H dx (.xd [(f, y)])) ea (excM ea C dx)) s' → Q () s') : wpAny (model X.prog X.w) A (setAttr (.ref ea) f u) Q E s := by
  obtain ⟨ox, vs, a0, hx, hc, hd, h0, h1, hdn, h22, h5z⟩ := id (show excP2 ea C none s.heap from (I.hok ea _ e).1)
  have IA : InstAt s.heap ea ox C none := ⟨hx, hc, by unfold notCls; rw [hd], by rw [hdn]; trivial⟩
  refine set_plain I.kIn IA T.sa (osa_exc (s := { s with toks := s.toks + 1 }) I.kIn hx hc hd hdn T.ov T.tk T.hd fun h' tk' hx' hn' hk => ?_)
  have dn : H s.heap.objs.size = none := I.hok.fresh (Nat.le_refl _)
  have ne : s.heap.objs.size ≠ ea := Nat.ne_of_gt (Heap.lt_size hx)
  refine h s.heap.objs.size _ dn ne (I.call' (ch := []) rfl ?_ ?_ I.bare fun b z => absurd z (by simp))
  · have old : ∀ b, H b ≠ none → b ≠ ea → upd (upd H s.heap.objs.size (.xd [(f, y)])) ea (excM ea C s.heap.objs.size) b = H b := fun b hb hbe => by
      rw [upd_ne hbe, upd_ne (fun z => hb (by rw [z]; exact dn))]
    refine ⟨fun b o q n hb hx => ?_, fun b o q n hb hx => ?_, fun b o q n hx => ?_, fun b o q hx => ?_, fun b xs q => ?_, fun b o u q => ?_, fun b ps q => ?_⟩
    · exact hk b o (fun z => by rw [z, e] at n; cases n) q
    · exact ⟨o.slots, hk b o (fun z => by rw [z, e] at n; cases n) q⟩
    · rw [upd_ne (fun z => by rw [z, e] at n; cases n), upd_ne (Nat.ne_of_lt (Heap.lt_size q))]
      exact n
    · by_cases hb : b = ea
      · rw [hb]; exact ⟨_, hx'⟩
      · exact ⟨o, hk b o hb q⟩
    · rw [old b (by rw [q]; exact fun z => nomatch z) (fun z => by rw [z, e] at q; cases q)]; exact q
    · rw [old b (by rw [q]; exact fun z => nomatch z) (fun z => by rw [z, e] at q; cases q)]; exact q
    · exact ⟨#[], by rw [old b (by rw [q]; exact fun z => nomatch z) (fun z => by rw [z, e] at q; cases q)]; simpa using q⟩
  · intro a v q
    by_cases ha : a = ea
    · rw [ha, upd_same] at q
      cases q
      rw [ha]
      exact exc_ok ⟨_, vs, a0, hx', hc, hd, h0, h1, rfl, h22, h5z⟩
    · rw [upd_ne ha] at q
      by_cases hb : a = s.heap.objs.size
      · rw [hb, upd_same] at q
        cases q
        rw [hb]
        refine ⟨_, hn', fun g => ?_⟩
        by_cases hg : g = f
        · rw [if_pos hg, hg]
          simp only [List.lookup, beq_self_eq_true]
          exact ry
        · rw [if_neg hg]
          have : (g == f) = false := by simpa using hg
          simp only [List.lookup, this]
          exact True.intro
      · rw [upd_ne hb] at q
        refine (I.hok a v q).stay (fun c w' hc' z => hk c w' (fun z2 => ?_) z) (fun c hc' => ?_) fun c xs hc' => ?_
        · rcases hc' with hc' | hc'
          · exact ha (hc' ▸ z2)
          · rw [z2, e] at hc'; cases hc'
        · rw [upd_ne (fun z => by rw [z, e] at hc'; cases hc'), upd_ne (fun z => by rw [z, dn] at hc'; cases hc')]; exact hc'
        · rw [upd_ne (fun z => by rw [z, e] at hc'; cases hc'), upd_ne (fun z => by rw [z, dn] at hc'; cases hc')]; exact hc'
def sFldE (C : Addr) (ta tv : TE) (f : Str) : TS := fun D σ H => tv σ H fun y H1 => ta σ H1 fun x H2 => ∃ ea, x = .ref ea ∧ H2 ea = some (excN ea C) ∧ ∀ dx, H2 dx = none → dx ≠ ea → D.nx σ (upd (upd H2 dx (.xd [(f, y)])) ea (excM ea C dx))
theorem ps_fldE {o value : Expr} {f : Str} {pos pos' : Pos} {ta tv : TE} {C : Addr} (T : ExcF X.K C f) (ha : PE X o ta) (hv : PE X value tv) (hs : swapsWith value (some (.Attribute o f pos')) pos.line X.env = pure false) : PS X (.Assign [.Attribute o f pos'] value pos) (sFldE C ta tv f) := by
  intro pins s σ H D I h
  refine plainObj_wpAny_Assign_Attribute (thn (hv pins s σ H _ I h) fun u s1 ⟨y, H1, I1, ry, q⟩ => thn (ha pins s1 σ H1 _ I1 q) fun ov s2 ⟨x, H2, I2, rx, ea, ex, he, q2⟩ => ?_) hs
  subst ex
  obtain rfl : ov = Value.ref ea := rx
  exact setE_ok I2 he T ry fun dx s3 h1 h2 I3 => ⟨σ, _, I3, q2 dx h1 h2⟩
theorem Inv.untrack {ea : Addr} {φ : Heap → Prop} (I : Inv X pins σ H s) (e : H ea = some (.ext φ)) : Inv X pins σ (hide ea H) s := by
  have hd : ∀ b, b ≠ ea → hide ea H b = H b := fun b hb => hide_ne hb
  refine ⟨I.ok, I.os, I.bare, ⟨I.base.keep, I.base.slot, fun b o q n hx => ?_, I.base.there, fun b xs q => ?_, fun b o u q => ?_, fun b ps q => ?_⟩, I.loc, I.cell, ?_, fun x c q => ?_, fun p hp => ?_, fun a v q => ?_, I.len⟩
  · by_cases hb : b = ea
    · rw [hb]; exact hide_at
    · rw [hd b hb]; exact I.base.free b o q n hx
  · have := I.base.tups b xs q
    rw [hd b (fun z => by rw [z, e] at this; cases this)]; exact this
  · have := I.base.frzs b o u q
    rw [hd b (fun z => by rw [z, e] at this; cases this)]; exact this
  · obtain ⟨more, this⟩ := I.base.tbls b ps q
    exact ⟨more, by rw [hd b (fun z => by rw [z, e] at this; cases this)]; exact this⟩
  · by_cases hb : X.env.locals = ea
    · rw [hb]; exact hide_at
    · rw [hd _ hb]; exact I.free
  · by_cases hb : c = ea
    · rw [hb]; exact hide_at
    · rw [hd _ hb]; exact I.freeC x c q
  · obtain ⟨q1, q2, q3⟩ := I.pin p hp
    refine ⟨q1, ?_, q3⟩
    by_cases hb : p.1 = ea
    · rw [hb]; exact hide_at
    · rw [hd _ hb]; exact q2
  · have ha : a ≠ ea := fun z => by rw [z, hide_at] at q; cases q
    rw [hd a ha] at q
    refine (I.hok a v q).stay (fun c v' _ z => z) (fun c hc => ?_) fun c xs hc => ?_
    · rw [hd c (fun z => by rw [z, e] at hc; cases hc)]; exact hc
    · rw [hd c (fun z => by rw [z, e] at hc; cases hc)]; exact hc
end
def ownIn (K : Frag) (C f : Addr) : Bool := match K.lookup C with
  | some ⟨.type "type", _, .cls cd, sl⟩ => (match cd.mro, sl.toList with
    | .ref C' :: bm, [_, _, _, _, some (.builtin n), _] => C' == C && n == "ValueError.__new__" && !cd.hasDel && tailIn K mroVE bm && nsOkIn K cd.ns && nsIn K cd.ns "__init__" == some (some (.ref f))
    | _, _ => false)
  | _ => false
theorem ns_some_of {K : Frag} {h : Heap} {N : Addr} {mg : Str → Option Value} {n : Str} {v : Value} (X : K.In h) (G : h.Ns N mg) (e : nsIn K N n = some (some v)) : mg n = some v := by
  obtain ⟨o, es, ep, ho, hd, _, hf⟩ := G
  unfold nsIn at e
  split at e
  · rename_i q
    have := X _ _ q
    rw [this] at ho
    cases ho
    cases hd
    split at e
    · rename_i he
      cases e
      rw [← hf]
      unfold nsFind findBy
      rw [← Array.find?_toList, he]
      rfl
    · split at e <;> cases e
  · cases e
theorem own_obj {K : Frag} {h : Heap} {C f : Addr} (X : K.In h) (q : ownIn K C f = true) :
    ∃ bm N nm q bs hdct sn sub ab col dd k0 k1 k2 k3 k5 mN, K.lookup C = some (excClassObj nm q C N bs bm hdct sn sub ab col dd k0 k1 k2 k3 k5 "ValueError.__new__") ∧ h.Ns N mN ∧ mN "__init__" = some (.ref f) ∧ OwnTail h mroVE bm := by
  unfold ownIn at q
  split at q
  · rename_i dd cd sl ho
    split at q
    · rename_i C' bm k0 k1 k2 k3 n k5 hm hs
      simp only [Bool.and_eq_true, beq_iff_eq, Bool.not_eq_true'] at q
      obtain ⟨⟨⟨⟨⟨rfl, rfl⟩, hdel⟩, ht⟩, hok⟩, hni⟩ := q
      obtain ⟨nm, bs, mro, ns, qn, hd, sn, sub, ab, col, del⟩ := cd
      dsimp only at hm hdel hok hni
      subst hm hdel
      have hsl : sl = #[k0, k1, k2, k3, some (.builtin "ValueError.__new__"), k5] := by
        obtain ⟨l⟩ := sl
        simp only at hs
        rw [hs]
      subst hsl
      exact ⟨bm, ns, nm, qn, bs, hd, sn, sub, ab, col, dd, k0, k1, k2, k3, k5, _, ho, .of_isNs (isNs_of_in X hok), ns_some_of X (.of_isNs (isNs_of_in X hok)) hni, tail_of_in X ht⟩
    · cases q
  · cases q
structure ExcMk (K : Frag) (C f : Addr) : Prop where
  own : ownIn K C f = true
  fn : isFn K (.ref f) = true
  kp : keepIn K (.ref C) = true
def DiX (P : Program) (w : World) (K : Frag) (mg : Str → Option Value) (base : Heap) (k : Nat) (x : Str) (C : Addr) (ps : List Str) (sp : Sp) : Prop :=
  ∃ f fd, mg x = some (.ref C) ∧ ExcMk K C f ∧ Binds K fd ps [] ∧ FnOk P w K mg base CX0 k f fd ps sp
section
variable {M : Model} {A : Around} {E : Value → Shared → Prop} {s : Shared} {env : Env}
variable {nm q : Str} {C N : Addr} {bs bm : List Value} {hdct : Bool} {sn : List Str} {sub : List Value} {ab : Bool} {col : Option Bool} {dd : Option Addr} {k0 k1 k2 k3 k5 : Option Value} {newId : String}
theorem raiseStmt_own {x : Sem Value} {Q : Flow → Shared → Prop} (hbase : bm.contains (.type "BaseException") = true) (hh : A.handled = none)
    (h : wpAny M A x (fun v s₁ => ∃ e oe vs, v = .ref e ∧ s₁.heap.get? C = some (excClassObj nm q C N bs bm hdct sn sub ab col dd k0 k1 k2 k3 k5 newId) ∧ s₁.heap.get? e = some oe ∧ oe.cls = .ref C ∧ oe.data = .fields vs ∧ vs[1]? = some .none ∧ E (.ref e) s₁) E s) :
    wpAny M A (raiseStmt env (some x) none) Q E s := by
  have hcB : (Value.ref C :: bm).contains (.type "BaseException") = true := by rw [List.contains_cons, hbase, Bool.or_true]
  unfold raiseStmt
  refine wpAny_bind (wpAny_mono h (fun v s₁ h₁ => ?_) fun _ _ x => x)
  obtain ⟨e, oe, vs, rfl, hC, he, hc, hd, h1, hE⟩ := h₁
  obtain ⟨hp, g, d, tk, os⟩ := s₁
  obtain ⟨oc, odi, oda, osl⟩ := oe
  dsimp only at hc hd
  subst hc hd
  repeat (first | with_reducible refine wpAny_loadPart_at he ?_ | with_reducible refine wpAny_loadPart_at hC ?_ | (with_reducible refine wpAny_isSubtype_exc hC ?_; rw [hcB]) | wp_step)
  rw [h1]
  refine wpAny_pure ?_
  rw [if_neg (by decide)]
  exact wpAny_pure (wpAny_raiseNew_none hh hE)
end
section
variable {X : Cx} {k : Nat} {C : Addr} {ps : List Str} {sp : Sp} {x : Str} {np cpos pos : Pos} {e : Expr} {es : List Expr} {t : TA} {W : St → XK}
theorem Inv.madeE {pins : List (Addr × Obj)} {σ : St} {H : Hp} {s : Shared} {h' : Heap} {ea : Addr} {us : List Value} (I : Inv X pins σ H s) (mk : Heap.MadeExcOf s.heap h' ea (.ref C) us) : Inv X pins σ (upd H ea (excN ea C)) { s with heap := h' } := by
  have hH : H ea = none := by
    cases q : H ea with
    | none => rfl
    | some v =>
      obtain ⟨o, e⟩ := objOk_there (I.hok ea v q)
      rw [mk.new] at e; cases e
  obtain ⟨t, he, htn, ht⟩ := mk.there
  have up : ∀ b o, H b = some o → upd H ea (excN ea C) b = some o := fun b o q => by rw [upd_ne (ne_of_none q hH)]; exact q
  refine I.call' (s' := { s with heap := h' }) (ch := []) rfl ⟨fun b o q n hb hx => mk.keeps b o q, fun b o q n hb hx => ⟨o.slots, mk.keeps b o q⟩, fun b o q n hx => ?_, fun b o q hx => ⟨o, mk.keeps b o q⟩, fun b xs q => up b _ q, fun b o u q => up b _ q, fun b ps q => ⟨#[], by rw [up b _ q]; simp⟩⟩ (fun a v q => ?_) I.bare fun b z => absurd z (by simp)
  · rw [upd_ne (fun z => by rw [z, mk.new] at q; cases q)]
    exact n
  · by_cases ha : a = ea
    · rw [ha, upd_same] at q
      cases q
      rw [ha]
      exact exc_ok ⟨_, _, _, he, rfl, rfl, rfl, rfl, rfl, rfl, by show 4 < 6; decide⟩
    · rw [upd_ne ha] at q
      exact (I.hok a v q).stay (fun c w' _ z => mk.keeps c w' z) (fun c hc => up c _ hc) fun c xs hc => up c _ hc
def tRaiseI (W : St → XK) (C : Addr) (sp : Sp) (t : TA) : TS := fun _ σ H => t σ H fun vs H1 => vs.length ≤ sizeLine ∧ ∀ ea, H1 ea = none →
  sp (.ref ea :: vs) (upd H1 ea (excN ea C)) (fun v H2 => v = .non ∧ ∃ dx, H2 ea = some (excM ea C dx) ∧ W σ (.ref C) (some dx) (hide ea H2)) E0
theorem ps_raiseI (O : Own X) (hc : X.calm = true) (hw : ThrDict X W) (hg : Gl X x) (D : DiX X.prog X.w X.K X.mg X.base k x C ps sp) (hr : Room (k + 1) X.A) (ha : PA X (e :: es) t)
    (hdb : (x == ("__debug__" : Str)) = false := by decide) (hst : starEach (e :: es) X.env = (false, eval e X.env) :: starEach es X.env := by rfl) (hpl : (backTo cpos (starEach es X.env)).any (·.1) = false := by rfl) :
    PS X (.Raise (some (.Call (.Name x np) (e :: es) [] cpos)) none pos) (tRaiseI W C sp t) := by
  obtain ⟨f, fd, hm, M, hb, F⟩ := D
  intro pins s σ H D' I h
  obtain ⟨tl, N, nm, qn, bs, hdct, sn, sub, ab, col, dd, k0, k1, k2, k3, k5, mN, hC, hN, hni, T⟩ := own_obj I.kIn M.own
  have hbase := T.hasType PySem.F.excBase_ValueError.hasBase
  have hcall : wpAny (model X.prog X.w) X.A (eval (.Call (.Name x np) (e :: es) [] cpos) X.env) (fun v s₃ => ∃ e oe vs, v = .ref e ∧ s₃.heap.get? C = some (excClassObj nm qn C N bs tl hdct sn sub ab col dd k0 k1 k2 k3 k5 "ValueError.__new__") ∧ s₃.heap.get? e = some oe ∧ oe.cls = .ref C ∧ oe.data = .fields vs ∧ vs[1]? = some .none ∧ X.xe (.ref e) s₃) X.xe s := by
    refine wpAny_Call_Name_kw (ld_glob I hg hm ?_ hdb)
    refine callWith_K (h₀ := X.base) I.ok.mod.kin M.kp (thn (ha cpos pins s σ H _ I h) fun us s1 ⟨vs, H1, I1, r, hz, q⟩ => ⟨I1.kIn, ?_⟩) hst hpl
    obtain ⟨tl1, N1, nm1, qn1, bs1, hdct1, sn1, sub1, ab1, col1, dd1, l0, l1, l2, l3, l5, mN1, hC1, hN1, hni1, T1⟩ := own_obj I1.kIn M.own
    obtain ⟨of, hof, hofc⟩ := Option.map_eq_some_iff.mp (show typeIn X.K (.ref f) = some (.type "function") from beq_iff_eq.mp M.fn)
    refine call_own PySem.F.excBase_ValueError T1 (I1.kIn _ _ hC1) hN1 hni1 (I1.kIn _ _ hof) hofc (by show us.length ≤ sizeLine; rw [← r.length]; exact hz) fun h' ea mk => ?_
    have hea : H1 ea = none := by
      cases q : H1 ea with
      | none => rfl
      | some v =>
        obtain ⟨o, e⟩ := objOk_there (I1.hok ea v q)
        rw [mk.new] at e; cases e
    have hs0 : X.s₀.heap.get? ea = none := by
      cases q : X.s₀.heap.get? ea with
      | none => rfl
      | some o =>
        obtain ⟨o', e⟩ := I1.base.there ea o q (by rw [O.exs]; simp)
        rw [mk.new] at e; cases e
    have I2 := I1.madeE mk
    have hq := q ea hea
    have r2 : Vals (V.ref ea :: vs) (Value.ref ea :: us) := .cons rfl r
    have hl : ((Value.ref ea :: us) ++ []).length = ps.length := by
      rw [List.append_nil]
      have e := r2.length
      rw [F.len _ _ _ _ hq] at e
      exact e.symm
    have hb' := hb _ (Value.ref ea :: us) I2.kIn hl
    rw [List.append_nil] at hb'
    refine wpAny_call (codeAny_mono (F.run _ X.stack _ _ ⟨Value.ref ea :: us, []⟩ (Value.ref ea :: us) _ _ E0 (hr.make C us []) (I2.env0.make C us []) hb' r2 hq) fun r s' hq' => ?_)
    cases r with
    | error e => exact False.elim hq'
    | ok fl =>
      cases fl with
      | ret u =>
        obtain ⟨v, H', I3, rv, ev, dx, hM, hW⟩ := I2.after hq'
        subst ev
        refine ⟨rv, ?_⟩
        obtain ⟨oe, ws, a0, he, hcl, hda, h0, h1, hdi, h22, _⟩ := id (show excP2 ea C (some dx) s'.heap from (I3.hok ea _ hM).1)
        refine ⟨ea, oe, ws, rfl, I3.kIn _ _ hC, he, hcl, hda, h1, hw pins σ _ s' ea oe ws a0 (I3.untrack hM) he hda h0 h1 h22 hide_at hs0 ?_⟩
        rw [hcl, hdi]
        exact hW
      | next => exact False.elim hq'
      | brk => exact False.elim hq'
      | cont => exact False.elim hq'
  rw [arm_exec_Raise]
  exact wpAny_bind (wpAny_standAt (raiseStmt_own (C := C) (nm := nm) (q := qn) (N := N) (bs := bs) (bm := tl) (hdct := hdct) (sn := sn) (sub := sub) (ab := ab) (col := col) (dd := dd) (k0 := k0) (k1 := k1) (k2 := k2) (k3 := k3) (k5 := k5) hbase (I.ok.hd hc) (wpAny_bind (wpAny_mono hcall (fun v s₃ h₃ => wpAny_bind (wpAny_standAt (wpAny_pure h₃))) fun _ _ x => x))))
end
end L2
set_option maxRecDepth 100000
namespace L2
open PySem PySem.Spec PyProof.Rows
def excP (ea : Addr) (cls : Value) (h : Heap) : Prop := ∃ o vs, h.get? ea = some o ∧ o.cls = cls ∧ o.data = .fields vs ∧ vs[2]? = some .none
def excO (ea : Addr) (cls : Value) : HO := .ext (excP ea cls)
def excPd (ea : Addr) (cls : Value) (dx : Addr) (h : Heap) : Prop := ∃ o vs, h.get? ea = some o ∧ o.cls = cls ∧ o.data = .fields vs ∧ o.dict = some dx ∧ vs[2]? = some .none
def excD (ea : Addr) (cls : Value) (dx : Addr) : HO := .ext (excPd ea cls dx)
def excV (ea : Addr) (cls : Value) : Option Addr → HO
  | none => excO ea cls
  | some dx => excD ea cls dx
abbrev Cx.more (X : Cx) (pn : List (Addr × Obj)) : Cx := { X with pn := X.pn ++ pn }
def Cx.tryX (X : Cx) (pn : List (Addr × Obj)) (W : St → XK) : Cx := (X.more pn).wish fun e s' => ∃ pins σ Hc sc, Inv (X.more pn) pins σ Hc sc ∧ CXE X.prog X.w X.stack Hc sc (W σ) e s'
def Cx.catchX (X : Cx) (ea : Addr) (pn : List (Addr × Obj)) : Cx := { X with A := X.A.mark (some (.ref ea)), calm := false, pn := X.pn ++ pn, xe := fun _ _ => False }
theorem on_try {X : Cx} {pn : List (Addr × Obj)} {W : St → XK} : ThrOn (X.tryX pn W) W := fun pins σ H s e s' I h => ⟨pins, σ, H, s, I.unwish, h⟩
section
variable {X : Cx} {pins pn : List (Addr × Obj)} {σ : St} {H : Hp} {s : Shared}
theorem Inv.toMore (I : Inv X pins σ H s) : Inv (X.more pins) [] σ H s :=
  ⟨⟨I.ok.mod, I.ok.kind, I.ok.glob, I.ok.blt, I.ok.above, I.ok.inj, I.ok.has, I.ok.cab, I.ok.hd, I.ok.frames, I.ok.stk, I.ok.exf, I.ok.bs, I.ok.bsz, I.ok.noex, I.ok.exfs, I.ok.funs, I.ok.frf⟩, I.os, I.bare, I.base, I.loc, I.cell, I.free, I.freeC, fun p hp => I.pin p (by simpa using hp), I.hok, I.len⟩
theorem Inv.ofMore {pins' : List (Addr × Obj)} (ok : X.Ok) (I : Inv (X.more pins) pins' σ H s) : Inv X pins σ H s :=
  ⟨ok, I.os, I.bare, I.base, I.loc, I.cell, I.free, I.freeC, fun p hp => I.pin p (List.mem_append_left _ hp), I.hok, I.len⟩
theorem Inv.toCatch {ea : Addr} {pins' : List (Addr × Obj)} (I : Inv (X.more pins) pins' σ H s) : Inv (X.catchX ea pins) [] σ H s :=
  ⟨⟨I.ok.mod, I.ok.kind, I.ok.glob, I.ok.blt, I.ok.above, I.ok.inj, I.ok.has, I.ok.cab, (fun z => nomatch z), I.ok.frames, I.ok.stk, I.ok.exf, I.ok.bs, I.ok.bsz, I.ok.noex, I.ok.exfs, I.ok.funs, I.ok.frf⟩, I.os, I.bare, I.base, I.loc, I.cell, I.free, I.freeC,
    fun p hp => I.pin p (List.mem_append_left _ (by simpa using (show p ∈ (X.pn ++ pins) ++ [] from hp))), I.hok, I.len⟩
theorem Inv.ofCatch {ea : Addr} (ok : X.Ok) (I : Inv (X.catchX ea pins) [] σ H s) : Inv X pins σ H s :=
  ⟨ok, I.os, I.bare, I.base, I.loc, I.cell, I.free, I.freeC, fun p hp => I.pin p (List.mem_append_left _ hp), I.hok, I.len⟩
theorem Inv.trackO {ea : Addr} {ho' : HO} {o : Obj} {vs : Array Value} (I : Inv X pins σ H s) (hea : H ea = none) (h0 : X.s₀.heap.get? ea = none) (ho : s.heap.get? ea = some o) (hd : o.data = .fields vs) (ok : ∀ H2 : Hp, ObjOk X.prog X.w H2 s.heap ea ho') (hp : ∀ p ∈ X.pn ++ pins, p.1 ≠ ea) : Inv X pins σ (upd H ea ho') s := by
  have neL : X.env.locals ≠ ea := fun z => by
    obtain ⟨m, ⟨o', _, _, ho', hd', _⟩, _⟩ := I.loc
    rw [z, ho] at ho'; cases ho'; rw [hd'] at hd; cases hd
  have neC : ∀ x c, X.env.cells.lookup x = some c → c ≠ ea := fun x c e z => by
    obtain ⟨v, o', ho', hd'⟩ := I.cell x c e
    rw [z, ho] at ho'; cases ho'; rw [hd'] at hd; cases hd
  have up : ∀ {b : Addr} {u : HO}, H b = some u → upd H ea ho' b = some u := fun {b u} e => by rw [upd_ne (ne_of_none e hea)]; exact e
  refine ⟨I.ok, I.os, I.bare, ⟨I.base.keep, I.base.slot, fun b o' e n hx' => ?_, I.base.there, fun b xs e => up (I.base.tups b xs e), fun b ob u e => up (I.base.frzs b ob u e), fun b ps e => ?_⟩, I.loc, I.cell, ?_, fun x c e => ?_, fun p hp' => ?_, fun a u e => ?_, I.len⟩
  · have : b ≠ ea := fun z => by rw [z, h0] at e; cases e
    rw [upd_ne this]
    exact I.base.free b o' e n hx'
  · obtain ⟨more, q⟩ := I.base.tbls b ps e
    exact ⟨more, up q⟩
  · rw [upd_ne neL]; exact I.free
  · rw [upd_ne (neC x c e)]; exact I.freeC x c e
  · obtain ⟨e, n, r⟩ := I.pin p hp'
    exact ⟨e, by rw [upd_ne (hp p hp')]; exact n, r⟩
  · by_cases ha : a = ea
    · rw [ha, upd_same] at e
      cases e
      rw [ha]
      exact ok _
    · rw [upd_ne ha] at e
      exact (I.hok a u e).stay (fun c v _ q => q) (fun b hb => up hb) fun b xs hb => up hb
theorem excV_ok {P : Program} {w : World} {H : Hp} {h : Heap} {ea : Addr} {cls : Value} {o : Obj} {vs : Array Value} (ho : h.get? ea = some o) (hc : o.cls = cls) (hd : o.data = .fields vs) (h2 : vs[2]? = some .none) : ObjOk P w H h ea (excV ea cls o.dict) := by
  cases hod : o.dict with
  | none => exact ⟨⟨o, vs, ho, hc, hd, h2⟩, ⟨o, ho⟩, fun h1 h2 ⟨o1, vs1, q1, q2, q3⟩ k => ⟨o1, vs1, k o1 q1, q2, q3⟩⟩
  | some dx => exact ⟨⟨o, vs, ho, hc, hd, hod, h2⟩, ⟨o, ho⟩, fun h1 h2 ⟨o1, vs1, q1, q2, q3⟩ k => ⟨o1, vs1, k o1 q1, q2, q3⟩⟩
theorem name_gone {M : Model} {A : Around} {E : Value → Shared → Prop} {i : Nat} {n : Str} {pos : Pos} {Q : Unit → Shared → Prop} (I : Inv X pins σ H s) (hN : X.N.Nodup) (hi : X.N[i]? = some n) (hk : X.env.scope.names.lookup n = some .local)
    (h : ∀ s', Inv X pins (σ.set i none) H s' → Q () s') : wpAny M A (do bindName X.env n .none; unbindBehindTheSuite X.env n pos) Q E s := by
  obtain ⟨m, hn, hl⟩ := id I.loc
  have hcls : (X.env.scope.kind == .class || (X.env.scope.kind == .module && X.env.locals != X.env.globals)) = false := by rw [I.ok.kind]; rfl
  have hiσ : i < σ.length := by rw [I.len]; exact (List.getElem?_eq_some_iff.mp hi).1
  have cne := I.cne
  refine wpAny_nameGoes_keeps hk hn hcls fun h' v hn' hs => ?_
  obtain ⟨oL, _, _, hoL, _⟩ := id hn
  have tracked : HOk X.prog X.w H h' := fun b ob e => by
    refine (I.hok b ob e).stay (fun c w' hc q => (hs.2 c ?_).trans q) (fun _ q => q) fun _ _ q => q
    rintro rfl
    have hfree := I.free
    rcases hc with rfl | hc
    · rw [hfree] at e; cases e
    · rw [hfree] at hc; cases hc
  refine h _ ⟨I.ok, I.os, I.bare, ⟨fun b o e n hb hx => ?_, fun b o e n hb hx => ?_, I.base.free, fun b o e hx => ?_, I.base.tups, I.base.frzs, I.base.tbls⟩, ⟨_, hn', fun j y v' e1 e2 e3 => ?_⟩, fun y c e => ?_, I.free, I.freeC, fun p hp => ?_, tracked, by simpa using I.len⟩
  · exact (hs.2 b (Nat.ne_of_lt (Nat.lt_of_lt_of_le (Heap.lt_size e) I.ok.above))).trans (I.base.keep b o e n hb hx)
  · obtain ⟨sl, e1⟩ := I.base.slot b o e n hb hx
    exact ⟨sl, (hs.2 b (Nat.ne_of_lt (Nat.lt_of_lt_of_le (Heap.lt_size e) I.ok.above))).trans e1⟩
  · obtain ⟨o', e1⟩ := I.base.there b o e hx
    exact ⟨o', (hs.2 b (Nat.ne_of_lt (Nat.lt_of_lt_of_le (Heap.lt_size e) I.ok.above))).trans e1⟩
  · by_cases hj : j = i
    · subst hj
      rw [List.getElem?_set_self hiσ] at e2
      cases e2
    · rw [List.getElem?_set_ne (Ne.symm hj)] at e2
      obtain ⟨u', r', q⟩ := hl j y v' e1 e2 e3
      refine ⟨u', r', ?_⟩
      rcases q with ⟨k, e⟩ | ⟨k, c, e, z⟩
      · refine .inl ⟨k, ?_⟩
        have : y ≠ n := fun e => hj (nodup_ix hN e1 (e ▸ hi))
        simp [this, e]
      · exact .inr ⟨k, c, e, z.sameBut hs (cne y c e)⟩
  · obtain ⟨w', z⟩ := I.cell y c e
    exact ⟨w', z.sameBut hs (cne y c e)⟩
  · obtain ⟨e, n, ne, nf, d⟩ := I.pin p hp
    exact ⟨(hs.2 p.1 ne).trans e, n, ne, nf, d⟩
end
end L2
set_option maxRecDepth 100000
namespace L2
open PySem PySem.Spec PySem.Calls PySem.W PyProof.Rows
open PySem.Builtin PySem.Builtin.ObjectAttr PySem.Builtin.Getset_descriptor
section
variable {prog : Program} {w : World} {A : Around} {E : Value → Shared → Prop} {s : Shared} {K : Frag} {x D : Addr}
theorem looks_find_data {M : Model} {h : Heap} (X : K.In h) {name : Str} {a g : Value} (ha : findIn K (.ref D) name = some (some a)) (hg : specialIn K a "__get__" = some (some g)) (ht : takesIn K a = some true) :
    Looks M h (find (.ref x) (.ref D) name) (.bind g a) := by
  have L1 := looks_findIn (M := M) X ha
  have L2 : Looks M h (getOf (some a)) (some g) := looks_specialIn X hg
  have L3 := looks_takesIn (M := M) X ht
  exact L1.andThen (L2.andThen ((show Looks M h (dataDescriptor? (some a) (some g)) (some (g, a)) from L3.andThen .now).andThen (Looks.tag .now)))
theorem exc_class_get {R : Result → Shared → Prop} {tp : Value} {o : Obj} (X : K.In s.heap) (hx : s.heap.get? x = some o) (hc : o.cls = .ref D) (hm : mroIn K D (.type "object") = some true)
    (h : R (.ok (.ret (.ref D))) s) : codeAny (model prog w) A (.call (.builtin "getset_descriptor.__get__") ⟨[.builtin "object.__class__", .ref x, tp], []⟩) R s := by
  obtain ⟨hh, g, dr, t, os⟩ := s
  have L0 : Looks (model prog w) hh (typeOf (.ref x)) (.ref D) := hc ▸ (Looks.ld hx).andThen .now
  have L1 := looks_mroIn (M := model prog w) X hm
  refine codeAny_call_builtin KF.slot_gs.plain KF.entry_gs (KF.slot_gs.check _ _ _ _ _ _ _ _ KF.type_class (KF.args_gs _ _ _) ?_)
  unfold Builtin.«getset_descriptor.__get__» descrGet
  rw [dga_obj]
  refine wpAny_bind (wpAny_pure ?_)
  unfold descrGetter descrCheckInstance descrNameAndClass isInstance
  simp only [KF.owner_class]
  repeat lk
  refine ⟨Code.quiet_builtin _ (by decide +kernel), codeAny_builtin KF.entry_class ?_⟩
  unfold Builtin.«object.__class__» shownTypeOf
  repeat lk
  exact h
theorem exc_check {M : Model} {o : Obj} {nameV : Value} {Q : Unit → Shared → Prop} {h : Heap} {g : Array GenState} {d : Drawn} {t : Nat} {os : OsState} (X : K.In h) (hx : h.get? x = some o) (hc : o.cls = .ref D) (hm : mroIn K D (.type "BaseException") = some true)
    (hq : Q () ⟨h, g, d, t, os⟩) : wpAny M A (checkBuiltinCall "BaseException.__getattribute__" ⟨[.ref x, nameV], []⟩) Q E ⟨h, g, d, t, os⟩ := by
  have hk : builtinKind "BaseException.__getattribute__" = some .slot := by decide +kernel
  have hsplit : splitId "BaseException.__getattribute__" = some ("BaseException", "__getattribute__") := by decide +kernel
  have ha := F.args_bexc_ga (.ref x) nameV
  have L1 := looks_mroIn (M := M) X hm
  simp only [checkBuiltinCall, hk, hsplit]
  refine wpAny_bind ?_
  · unfold isInstance
    repeat (first | (with_reducible refine wpAny_loadPart_at hx ?_; rw [hc]) | with_reducible refine L1.at ?_ | wp_step)
    exact hq
structure ExcK (K : Frag) (D : Addr) : Prop where
  ga : findIn K (.ref D) "__getattribute__" = some (some (.builtin "BaseException.__getattribute__"))
  gt : findIn K (.ref D) "__getattr__" = some none
  cl : findIn K (.ref D) "__class__" = some (some (.builtin "object.__class__"))
  gg : specialIn K (.builtin "object.__class__") "__get__" = some (some (.builtin "getset_descriptor.__get__"))
  tk : takesIn K (.builtin "object.__class__") = some true
  mo : mroIn K D (.type "object") = some true
  mb : mroIn K D (.type "BaseException") = some true
  ic : hasDictIn K D = true
theorem exc_class {o : Obj} {Q : Option Value → Shared → Prop} (T : ExcK K D) (X : K.In s.heap) (hx : s.heap.get? x = some o) (hc : o.cls = .ref D) (h : Q (some (.ref D)) { s with toks := s.toks + 1 }) :
    wpAny (model prog w) A (getAttr? (.ref x) "__class__") Q E s := by
  obtain ⟨hh, g, d, t, os⟩ := s
  have L0 : Looks (model prog w) hh (typeOf (.ref x)) (.ref D) := hc ▸ (Looks.ld hx).andThen .now
  have L1 := looks_findIn (M := model prog w) X T.ga
  have L2 := looks_findIn (M := model prog w) X T.gt
  have L3 := looks_find_data (M := model prog w) (x := x) X T.cl T.gg T.tk
  have f3 := F.attr_ValueError.ga.bind (.ref x)
  unfold getAttr? getAttrBy? getAttrBy
  refine wpAny_bind (wpAny_mkText (wpAny_bind (wpAny_attempt (wpAny_holding (wpAny_bind (L0.at (wpAny_bind (L1.at ?_))))))))
  show wpAny _ _ (getAttrByItsOwn _ _ _ _ _ _) _ _ _
  unfold getAttrByItsOwn hookBefore
  refine wpAny_bind ?_
  show wpAny _ _ (typeLookup (.ref D) "__getattr__") _ _ _
  refine L2.at ?_
  refine wpAny_bind (wpAny_attempt (wpAny_holding ?_))
  show wpAny _ _ (boundAndCalled _ _ _) _ _ _
  unfold boundAndCalled
  rw [f3]
  refine wpAny_bind (wpAny_pure ?_)
  refine wpAny_call (codeAny_call_builtin F.attr_ValueError.ga.plain F.entry_bexc_ga (exc_check X hx hc T.mb ?_))
  repeat (any_goals (first | assumption | (with_reducible refine wpAny_loadPart_at hx ?_; rw [hc]) | with_reducible refine L3.at ?_ | wp_step))
  refine exc_class_get (s := ⟨hh, g, d, _, os⟩) X hx hc T.mo ?_
  repeat (any_goals (first | assumption | wp_step))
theorem exc_get {o od : Obj} {name : Str} {v : Value} {expr : Bool} {Q : Value → Shared → Prop} (T : ExcK K D) (X : K.In s.heap) (I : InstAt s.heap x o D (some od)) (hf : findObj K D (some od) name = some (.value v)) (hh : handedIn v = true) (h : Q v { s with toks := s.toks + 1 }) :
    wpAny (model prog w) A (getAttr (.ref x) name expr) Q E s := by
  obtain ⟨hh', g, d, t, os⟩ := s
  have hx := I.at_
  have hc := I.cls
  have L0 := I.type (M := model prog w)
  have L1 := looks_findIn (M := model prog w) X T.ga
  have L2 := looks_findIn (M := model prog w) X T.gt
  have L3 := looks_find (M := model prog w) X I hf
  have f3 := F.attr_ValueError.ga.bind (.ref x)
  unfold getAttr getAttrBy
  refine wpAny_bind (wpAny_mkText (wpAny_holding (wpAny_bind (L0.at (wpAny_bind (L1.at ?_))))))
  show wpAny _ _ (getAttrByItsOwn _ _ _ _ _ _) _ _ _
  unfold getAttrByItsOwn hookBefore
  refine wpAny_bind ?_
  show wpAny _ _ (typeLookup (.ref D) "__getattr__") _ _ _
  refine L2.at ?_
  refine wpAny_bind (wpAny_attempt (wpAny_holding ?_))
  unfold callGetattribute
  rw [if_neg (by cases expr <;> simp [onTheHeap])]
  unfold boundAndCalled
  rw [f3]
  refine wpAny_bind (wpAny_pure ?_)
  refine wpAny_call (codeAny_call_builtin F.attr_ValueError.ga.plain F.entry_bexc_ga (exc_check X hx hc T.mb ?_))
  repeat (any_goals (first | assumption | (with_reducible refine wpAny_loadPart_at hx ?_; rw [hc]) | with_reducible refine L3.at ?_ | wp_step))
  show wpAny _ _ (handedOut v) _ _ _
  rw [handedOut_of hh]
  exact wpAny_pure h
end
section
variable {X : Cx}
theorem vals_refs : ∀ {Cs : List Addr} {us : List Value}, Vals (Cs.map V.ref) us → us = Cs.map Value.ref
  | [], _, .nil => rfl
  | C :: Cs, _, .cons r t => by
    cases r
    rw [vals_refs t]
    rfl
structure ExcA (K : Frag) (D : Addr) (f : Str) : Prop where
  k : ExcK K D
  na : findIn K (.ref D) f = some none
end
end L2
namespace L2
open PySem PySem.Spec PyProof.Rows
section
variable {κ : Type} [DecidableEq κ]
def valV (kvs : List (κ × V)) (k : κ) : Option V := (kvs.find? fun kv => decide (kv.1 = k)).map (·.2)
def putK (kvs : List (κ × V)) (k : κ) (v : V) : List (κ × V) :=
  if (kvs.any fun kv => decide (kv.1 = k)) = true then kvs.map (fun kv => if kv.1 = k then (kv.1, v) else kv) else kvs ++ [(k, v)]
def dropK (kvs : List (κ × V)) (k : κ) : List (κ × V) := kvs.filter fun kv => decide (kv.1 ≠ k)
theorem valV_pos {p : κ × V} {r : List (κ × V)} {k : κ} (e : p.1 = k) : valV (p :: r) k = some p.2 := by simp [valV, List.find?_cons, e]
theorem valV_neg {p : κ × V} {r : List (κ × V)} {k : κ} (e : ¬ p.1 = k) : valV (p :: r) k = valV r k := by simp [valV, List.find?_cons, e]
theorem valV_any (k : κ) : ∀ kvs : List (κ × V), (kvs.any fun kv => decide (kv.1 = k)) = (valV kvs k).isSome
  | [] => rfl
  | p :: r => by
    rw [List.any_cons]
    by_cases e : p.1 = k
    · simp only [valV_pos e, decide_eq_true e, Bool.true_or, Option.isSome_some]
    · rw [valV_neg e, decide_eq_false e, Bool.false_or]; exact valV_any k r
theorem length_putK (kvs : List (κ × V)) (k : κ) (v : V) : (putK kvs k v).length ≤ kvs.length + 1 := by
  unfold putK
  split
  · rw [List.length_map]; omega
  · rw [List.length_append, List.length_cons, List.length_nil]; omega
theorem putK_new {kvs : List (κ × V)} {k : κ} (v : V) (h : valV kvs k = none) : putK kvs k v = kvs ++ [(k, v)] := by
  unfold putK
  rw [valV_any, h]
  exact if_neg (by decide)
theorem RelO.isSome_eq {o : Option V} {u : Option Value} (r : RelO o u) : o.isSome = u.isSome := by
  cases o with
  | none => cases u with
    | none => rfl
    | some _ => exact (show False from r).elim
  | some _ => cases u with
    | none => exact (show False from r).elim
    | some _ => rfl
theorem RelO.getD {o : Option V} {u : Option Value} {d : V} {d' : Value} (r : RelO o u) (rd : RelV d d') : RelV (o.getD d) (u.getD d') := by
  cases o with
  | none => cases u with
    | none => exact rd
    | some _ => exact (show False from r).elim
  | some _ => cases u with
    | none => exact (show False from r).elim
    | some _ => exact r
theorem KV.val {kvs : List (κ × V)} {vs : List (κ × Value)} (r : KV kvs vs) (k : κ) : RelO (valV kvs k) (valueAt vs k) := by
  unfold KV at r
  induction r with
  | nil => exact True.intro
  | @cons p q ps qs h t ih =>
    obtain ⟨h1, h2⟩ := h
    by_cases e : p.1 = k
    · have e' : q.1 = k := h1.symm.trans e
      have b : valueAt (q :: qs) k = some q.2 := by simp [valueAt, List.find?_cons, e']
      rw [valV_pos e, b]; exact h2
    · have e' : ¬ q.1 = k := fun z => e (h1.trans z)
      have b : valueAt (q :: qs) k = valueAt qs k := by simp [valueAt, List.find?_cons, e']
      rw [valV_neg e, b]; exact ih
theorem KV.any {kvs : List (κ × V)} {vs : List (κ × Value)} (r : KV kvs vs) (k : κ) : (kvs.any fun kv => decide (kv.1 = k)) = vs.any fun kv => decide (kv.1 = k) := by
  unfold KV at r
  induction r with
  | nil => rfl
  | cons h t ih => rw [List.any_cons, List.any_cons, ih, h.1]
theorem KV.repl {kvs : List (κ × V)} {vs : List (κ × Value)} (r : KV kvs vs) (k : κ) {y : V} {u : Value} (ry : RelV y u) :
    KV (kvs.map fun kv => if kv.1 = k then (kv.1, y) else kv) (vs.map fun kv => if kv.1 = k then (kv.1, u) else kv) := by
  unfold KV at r ⊢
  induction r with
  | nil => exact .nil
  | @cons p q ps qs h t ih =>
    rw [List.map_cons, List.map_cons]
    refine .cons ?_ ih
    obtain ⟨h1, h2⟩ := h
    by_cases e : p.1 = k
    · rw [if_pos e, if_pos (h1.symm.trans e)]; exact ⟨h1, ry⟩
    · rw [if_neg e, if_neg (fun z => e (h1.trans z))]; exact ⟨h1, h2⟩
theorem KV.put {kvs : List (κ × V)} {vs : List (κ × Value)} (r : KV kvs vs) (k : κ) {y : V} {u : Value} (ry : RelV y u) : KV (putK kvs k y) (stored vs k u) := by
  unfold putK stored
  rw [r.any k]
  by_cases e : (vs.any fun kv => decide (kv.1 = k)) = true
  · rw [if_pos e, if_pos e]; exact r.repl k ry
  · rw [if_neg e, if_neg e]; exact Paired.snoc r ⟨rfl, ry⟩
theorem KV.drop {kvs : List (κ × V)} {vs : List (κ × Value)} (r : KV kvs vs) (k : κ) : KV (dropK kvs k) (without vs k) := by
  unfold KV at r ⊢
  unfold dropK without
  induction r with
  | nil => exact .nil
  | @cons p q ps qs h t ih =>
    obtain ⟨h1, h2⟩ := h
    rw [List.filter_cons, List.filter_cons]
    by_cases e : p.1 = k
    · have a : ¬ decide (p.1 ≠ k) = true := by simp [e]
      have b : ¬ decide (q.1 ≠ k) = true := by simp [h1.symm.trans e]
      rw [if_neg a, if_neg b]; exact ih
    · have e' : ¬ q.1 = k := fun z => e (h1.trans z)
      have a : decide (p.1 ≠ k) = true := by simp [e]
      have b : decide (q.1 ≠ k) = true := by simp [e']
      rw [if_pos a, if_pos b]; exact .cons ⟨h1, h2⟩ ih
theorem KV.keys {kvs : List (κ × V)} {vs : List (κ × Value)} (r : KV kvs vs) : kvs.map (·.1) = vs.map (·.1) := by
  unfold KV at r
  induction r with
  | nil => rfl
  | cons h t ih => rw [List.map_cons, List.map_cons, ih, h.1]
theorem KV.length {kvs : List (κ × V)} {vs : List (κ × Value)} (r : KV kvs vs) : kvs.length = vs.length := Paired.length r
end
theorem kV_is {P : Program} {w : World} {k : Key} {u : Value} (r : RelV (kV k) u) : (mixKind P w).is k u = true := by
  cases k with
  | inl i => obtain ⟨t, e⟩ := (show ∃ t, u = Value.int i t from r); subst e; exact mixKind_int P w i t
  | inr x => obtain ⟨t, e⟩ := (show ∃ t, u = Value.str x t from r); subst e; exact mixKind_str P w x t
theorem kV_inj {a b : Key} (e : kV a = kV b) : a = b := by
  cases a with
  | inl i => cases b with
    | inl j => have e' : V.int i = V.int j := e; injection e' with e'; rw [e']
    | inr y => exact nomatch (show V.int i = V.str y from e)
  | inr x => cases b with
    | inl j => exact nomatch (show V.str x = V.int j from e)
    | inr y => have e' : V.str x = V.str y := e; injection e' with e'; rw [e']
theorem items_are {P : Program} {w : World} : ∀ {ks : List Key} {us : List Value}, Vals (ks.map kV) us → ItemsAre (mixKind P w) ks us
  | [], _, r => by rw [List.map_nil] at r; cases r; exact .nil
  | k :: ks, _, r => by
    rw [List.map_cons] at r
    cases r with
    | cons h t => exact .cons (kV_is h) (items_are t)
abbrev KT (H : Hp) : List (List Key × V) → List (List Key × Addr × Value) → Prop := Paired fun p q => p.1 = q.1 ∧ H q.2.1 = some (.tup (p.1.map kV)) ∧ RelV p.2 q.2.2
theorem KT.val {H : Hp} {kvs : List (List Key × V)} {xs : List (List Key × Addr × Value)} (r : KT H kvs xs) (k : List Key) : RelO (valV kvs k) ((atKey xs k).map (·.2)) := by
  induction r with
  | nil => exact True.intro
  | @cons p q ps qs h t ih =>
    obtain ⟨h1, _, h2⟩ := h
    by_cases e : p.1 = k
    · have e' : q.1 = k := h1.symm.trans e
      have b : atKey (q :: qs) k = some q.2 := by simp [atKey, List.find?_cons, e']
      rw [valV_pos e, b]; exact h2
    · have e' : ¬ q.1 = k := fun z => e (h1.trans z)
      have b : atKey (q :: qs) k = atKey qs k := by simp [atKey, List.find?_cons, e']
      rw [valV_neg e, b]; exact ih
theorem KT.repl {H : Hp} {kvs : List (List Key × V)} {xs : List (List Key × Addr × Value)} (r : KT H kvs xs) (k : List Key) {y : V} {u : Value} (ry : RelV y u) :
    KT H (kvs.map fun kv => if kv.1 = k then (kv.1, y) else kv) (xs.map (putAt k u)) := by
  induction r with
  | nil => exact .nil
  | @cons p q ps qs h t ih =>
    rw [List.map_cons, List.map_cons]
    refine .cons ?_ ih
    obtain ⟨h1, h2, h3⟩ := h
    unfold putAt
    by_cases e : p.1 = k
    · rw [if_pos e, if_pos (h1.symm.trans e)]; exact ⟨h1, h2, ry⟩
    · rw [if_neg e, if_neg (fun z => e (h1.trans z))]; exact ⟨h1, h2, h3⟩
theorem KT.put {H : Hp} {kvs : List (List Key × V)} {xs : List (List Key × Addr × Value)} (r : KT H kvs xs) (k : List Key) {b : Addr} {y : V} {u : Value} (hb : H b = some (.tup (k.map kV))) (ry : RelV y u) :
    KT H (putK kvs k y) (storedH xs k b u) := by
  have e : (kvs.any fun kv => decide (kv.1 = k)) = (atKey xs k).isSome := by
    rw [valV_any, (r.val k).isSome_eq, Option.isSome_map]
  unfold putK storedH
  rw [e]
  by_cases q : (atKey xs k).isSome = true
  · rw [if_pos q, if_pos q]; exact r.repl k ry
  · rw [if_neg q, if_neg q]; exact Paired.snoc r ⟨rfl, hb, ry⟩
theorem KT.keeps {H H' : Hp} {kvs : List (List Key × V)} {xs : List (List Key × Addr × Value)} (r : KT H kvs xs) (ht : ∀ b ys, H b = some (.tup ys) → H' b = some (.tup ys)) : KT H' kvs xs :=
  Paired.mapP r fun _ _ z => ⟨z.1, ht _ _ z.2.1, z.2.2⟩
section
variable {P : Program} {w : World} {H : Hp} {h : Heap} {a : Addr}
theorem rd_of {u : HO} (ok : HOk P w H h) (e : Rd H a u) : ObjOk P w H h a u := e.ok ok
theorem dk_rd {kvs : List (Key × V)} (ok : HOk P w H h) (e : Rd H a (.dK kvs)) : kvs.length ≤ sizeLine ∧ (a == sysModules) = false ∧ ∃ vs, KV kvs vs ∧ h.DictOf (mixKind P w) a vs :=
  show ObjOk P w H h a (.dK kvs) from rd_of ok e
theorem dk_of {kvs : List (Key × V)} (ok : HOk P w H h) (e : H a = some (.dK kvs)) : kvs.length ≤ sizeLine ∧ (a == sysModules) = false ∧ ∃ vs, KV kvs vs ∧ h.DictOf (mixKind P w) a vs := dk_rd ok (.inl e)
theorem key_of {ks : List Key} (ok : HOk P w H h) (e : H a = some (.tup (ks.map kV))) : (tupleKind (mixKind P w)).is h ks a := by
  obtain ⟨_, its, r, o, h1, h2, n, h3⟩ := (show ObjOk P w H h a (.tup (ks.map kV)) from ok a _ e)
  exact ⟨o, its.toArray, n, h1, h2, h3, by simpa using items_are r⟩
theorem dt_rd {kvs : List (List Key × V)} (ok : HOk P w H h) (e : Rd H a (.dT kvs)) : kvs.length ≤ sizeLine ∧ (a == sysModules) = false ∧
    ∃ xs, KT H kvs xs ∧ h.DictOfH (tupleKind (mixKind P w)) a xs := by
  obtain ⟨z, y, xs, r, o, es, ep, h1, h2, h3, h4, h5⟩ := (show ObjOk P w H h a (.dT kvs) from rd_of ok e)
  refine ⟨z, y, xs, r, o, es, ep, h1, h2, h3, h4, fun x hx => ?_, h5⟩
  have all : ∀ {l : List (List Key × V)} {m : List (List Key × Addr × Value)}, KT H l m → ∀ x ∈ m, (tupleKind (mixKind P w)).is h x.1 x.2.1 := by
    intro l m q
    induction q with
    | nil => intro x hx; exact nomatch hx
    | @cons p q ps qs hq t ih =>
      intro x hx
      rcases List.mem_cons.mp hx with e | hx
      · subst e
        exact key_of ok (by rw [← hq.1]; exact hq.2.1)
      · exact ih x hx
  exact all r x hx
theorem dt_of {kvs : List (List Key × V)} (ok : HOk P w H h) (e : H a = some (.dT kvs)) : kvs.length ≤ sizeLine ∧ (a == sysModules) = false ∧
    ∃ xs, KT H kvs xs ∧ h.DictOfH (tupleKind (mixKind P w)) a xs := dt_rd ok (.inl e)
end
def DGet (H : Hp) (a : Addr) (y : V) (r : Option V) : Prop :=
  (∃ kvs k, Rd H a (.dK kvs) ∧ y = kV k ∧ r = valV kvs k) ∨ ∃ kvs k b, Rd H a (.dT kvs) ∧ y = .ref b ∧ H b = some (.tup (k.map kV)) ∧ r = valV kvs k
def DPut (H : Hp) (a : Addr) (y v : V) (H' : Hp) : Prop :=
  (∃ kvs k, H a = some (.dK kvs) ∧ y = kV k ∧ kvs.length < sizeLine ∧ H' = upd H a (.dK (putK kvs k v))) ∨
  ∃ kvs k b, H a = some (.dT kvs) ∧ y = .ref b ∧ H b = some (.tup (k.map kV)) ∧ kvs.length < sizeLine ∧ H' = upd H a (.dT (putK kvs k v))
theorem DGet.k {H : Hp} {a : Addr} {kvs : List (Key × V)} {k : Key} (e : H a = some (.dK kvs)) : DGet H a (kV k) (valV kvs k) := .inl ⟨kvs, k, .inl e, rfl, rfl⟩
theorem DGet.t {H : Hp} {a b : Addr} {kvs : List (List Key × V)} {k : List Key} (e : H a = some (.dT kvs)) (eb : H b = some (.tup (k.map kV))) : DGet H a (.ref b) (valV kvs k) := .inr ⟨kvs, k, b, .inl e, rfl, eb, rfl⟩
theorem DPut.k {H : Hp} {a : Addr} {kvs : List (Key × V)} {k : Key} {v : V} (e : H a = some (.dK kvs)) (hl : kvs.length < sizeLine) : DPut H a (kV k) v (upd H a (.dK (putK kvs k v))) := .inl ⟨kvs, k, e, rfl, hl, rfl⟩
theorem DPut.t {H : Hp} {a b : Addr} {kvs : List (List Key × V)} {k : List Key} {v : V} (e : H a = some (.dT kvs)) (eb : H b = some (.tup (k.map kV))) (hl : kvs.length < sizeLine) :
    DPut H a (.ref b) v (upd H a (.dT (putK kvs k v))) := .inr ⟨kvs, k, b, e, rfl, eb, hl, rfl⟩
section
variable {X : Cx} {pins : List (Addr × Obj)} {σ : St} {H : Hp} {s : Shared} {a : Addr} {y v : V} {u r : Value} {o : Option V} {A : Around} {E : Value → Shared → Prop}
theorem Inv.big (I : Inv X pins σ H s) : sysModules < s.heap.objs.size := by
  have h : mainGlobals < s.heap.objs.size := (I.mod.glob.keeps I.bk).lt
  exact Nat.lt_trans (by decide) h
theorem d_getItem {Q : Value → Shared → Prop} (hu : A.units + 1 < cLine) (I : Inv X pins σ H s) (g : DGet H a y (some v)) (ry : RelV y u) (h : ∀ w' s', Inv X pins σ H s' → RelV v w' → Q w' s') :
    wpAny (model X.prog X.w) A (getItem (.ref a) u) Q E s := by
  rcases g with ⟨kvs, k, e, ey, l⟩ | ⟨kvs, k, b, e, ey, eb, l⟩
  · subst ey
    obtain ⟨z, hd, vs, rel, dd⟩ := dk_rd I.hok e
    obtain ⟨w', hw, rw'⟩ := RelO.some_of (v := v) (o := valueAt vs k) (by rw [l]; exact rel.val k)
    exact wpAny_getItem_of (kV_is ry) dd.mapOf hw (h w' _ (I.tok _) rw')
  · subst ey
    cases (show u = Value.ref b from ry)
    obtain ⟨z, hd, xs, rel, dd⟩ := dt_rd I.hok e
    obtain ⟨w', hw, rw'⟩ := RelO.some_of (v := v) (o := (atKey xs k).map (·.2)) (by rw [l]; exact rel.val k)
    obtain ⟨p, hp, hp2⟩ := Option.map_eq_some_iff.mp hw
    refine wpAny_getItem_heap (tupleKind_room_in1 hu) (key_of I.hok eb) dd hp ?_
    rw [hp2]
    exact h w' _ (I.tok _) rw'
theorem d_in {Q : Value → Shared → Prop} (hu : A.units + 1 < cLine) (I : Inv X pins σ H s) (g : DGet H a y o) (ry : RelV y u) (h : ∀ s', Inv X pins σ H s' → Q (.bool o.isSome) s') :
    wpAny (model X.prog X.w) A (compareOp .In u (.ref a)) Q E s := by
  rcases g with ⟨kvs, k, e, ey, l⟩ | ⟨kvs, k, b, e, ey, eb, l⟩
  · subst ey
    obtain ⟨z, hd, vs, rel, dd⟩ := dk_rd I.hok e
    refine wpAny_in_of (kV_is ry) hd dd.mapOf ?_
    rw [← (rel.val k).isSome_eq, ← l]
    exact h _ (I.tok _)
  · subst ey
    cases (show u = Value.ref b from ry)
    obtain ⟨z, hd, xs, rel, dd⟩ := dt_rd I.hok e
    refine wpAny_in_heap (tupleKind_room_in1 hu) (key_of I.hok eb) hd dd ?_
    have q := (rel.val k).isSome_eq
    rw [Option.isSome_map] at q
    rw [← q, ← l]
    exact h _ (I.tok _)
theorem d_notIn {Q : Value → Shared → Prop} (hu : A.units + 1 < cLine) (I : Inv X pins σ H s) (g : DGet H a y o) (ry : RelV y u) (h : ∀ s', Inv X pins σ H s' → Q (.bool (!o.isSome)) s') :
    wpAny (model X.prog X.w) A (compareOp .NotIn u (.ref a)) Q E s := by
  rcases g with ⟨kvs, k, e, ey, l⟩ | ⟨kvs, k, b, e, ey, eb, l⟩
  · subst ey
    obtain ⟨z, hd, vs, rel, dd⟩ := dk_rd I.hok e
    refine wpAny_notIn_of (kV_is ry) hd dd.mapOf ?_
    rw [← (rel.val k).isSome_eq, ← l]
    exact h _ (I.tok _)
  · subst ey
    cases (show u = Value.ref b from ry)
    obtain ⟨z, hd, xs, rel, dd⟩ := dt_rd I.hok e
    refine wpAny_notIn_heap (tupleKind_room_in1 hu) (key_of I.hok eb) hd dd ?_
    have q := (rel.val k).isSome_eq
    rw [Option.isSome_map] at q
    rw [← q, ← l]
    exact h _ (I.tok _)
theorem d_write {h' : Heap} {t' : Nat} {ob : HO} (I : Inv X pins σ H s) (mu : Mut (H a)) (hs : Heap.SameBut a s.heap h') (he : ∃ q, h'.get? a = some q) (new : ObjOk X.prog X.w (upd H a ob) h' a ob) :
    Inv X pins σ (upd H a ob) { s with heap := h', toks := t' } :=
  I.write (x := a) (e := a) mu (.inl rfl) (fun b q hb z => (hs.2 b hb).trans z) he new
theorem dk_new {P : Program} {w : World} {H' : Hp} {h' : Heap} {kvs : List (Key × V)} {vs : List (Key × Value)} (z : kvs.length ≤ sizeLine) (hd : (a == sysModules) = false) (rel : KV kvs vs) (dd : h'.DictOf (mixKind P w) a vs) :
    ObjOk P w H' h' a (.dK kvs) := ⟨z, hd, vs, rel, dd⟩
theorem d_setItem {H' : Hp} {Q : Unit → Shared → Prop} (hu : A.units + 1 < cLine) (I : Inv X pins σ H s) (g : DPut H a y v H') (ry : RelV y u) (rv : RelV v r) (h : ∀ s', Inv X pins σ H' s' → Q () s') :
    wpAny (model X.prog X.w) A (setItem (.ref a) u r) Q E s := by
  rcases g with ⟨kvs, k, e, ey, l, eH⟩ | ⟨kvs, k, b, e, ey, eb, l, eH⟩
  · subst ey eH
    obtain ⟨z, hd, vs, rel, dd⟩ := dk_of I.hok e
    have hz : vs.length ≤ sizeLine := by rw [← rel.length]; exact z
    have hl : (putK kvs k v).length ≤ sizeLine := by have := length_putK kvs k v; omega
    refine wpAny_setItem_pairs (hsz := hz) (kV_is ry) dd fun h' dd' hs => h _ ?_
    have he : ∃ q, h'.get? a = some q := let ⟨q, _, _, hq, _⟩ := dd'; ⟨q, hq⟩
    exact d_write I (by rw [e]; exact True.intro) hs he (dk_new hl hd (rel.put k rv) dd')
  · subst ey eH
    cases (show u = Value.ref b from ry)
    obtain ⟨z, hd, xs, rel, dd⟩ := dt_of I.hok e
    have hz : xs.length ≤ sizeLine := by rw [← Paired.length rel]; exact z
    have hl : (putK kvs k v).length ≤ sizeLine := by have := length_putK kvs k v; omega
    refine wpAny_setItem_heap (hsz := hz) (tupleKind_room_in1 hu) (key_of I.hok eb) dd fun h' dd' hs => h _ ?_
    obtain ⟨q, es, ep, hq, h2, h3, h4, _, h5⟩ := dd'
    refine d_write I (by rw [e]; exact True.intro) hs ⟨q, hq⟩ ⟨hl, hd, _, (rel.put k eb rv).keeps fun c ys ec => ?_, q, es, ep, hq, h2, h3, h4, h5⟩
    rw [upd_ne (ne_of ec e (fun z => nomatch z))]
    exact ec
end
section
variable {X : Cx} {pins : List (Addr × Obj)} {σ : St} {H : Hp} {s : Shared} {a : Addr} {kvs : List (Key × V)} {k : Key} {u : Value} {A : Around} {E : Value → Shared → Prop}
end
def NoSl (i : Expr) : Prop := ∀ ov iv, subscripted i false ov iv = operate [ov, iv] (getItem ov iv)
theorem subD_of {prog : Program} {w : World} {A : Around} {E : Value → Shared → Prop} {s : Shared} {env : Env} {value slice : Expr} {pos : Pos} {T id : String} {Q : Value → Shared → Prop}
    (hl : typeLookup (.type T) "__getitem__" = pure (some (.builtin id))) (hs : NoSl slice)
    (h : wpAny (model prog w) A (eval value env) (fun o s₁ => wpAny (model prog w) A (eval slice env) (fun i s₂ => s₂.TypeIs o T ∧ wpAny (model prog w) A (getItem o i) Q E s₂) E s₁) E s) :
    wpAny (model prog w) A (eval (.Subscript value slice pos) env) Q E s := by
  refine Subscript_ (wpAny_mono h (fun o s₁ h₁ => wpAny_mono h₁ (fun i s₂ h₂ => ?_) fun _ _ x => x) fun _ _ x => x)
  obtain ⟨hT, h₂⟩ := h₂
  unfold subscriptTail
  refine wpAny_bind ?_
  rw [getitemInPython_of_ne hT.not_modules]
  refine wpAny_bind (wpAny_specialOf hT hl ?_)
  have fin : wpAny (model prog w) A (subscripted slice false o i) (fun r s₃ => wpAny (model prog w) A (letTemporaryGo value o r >>= fun _ => pure r) Q E s₃) E s₂ := by
    rw [hs o i]
    exact wpAny_operating (wpAny_mono h₂ (fun r s₃ h₃ => wpAny_bind (wpAny_letTemporaryGo (wpAny_pure h₃))) fun _ _ x => x)
  first
    | exact wpAny_pure (wpAny_bind fin)
    | exact wpAny_bind (wpAny_pure (wpAny_bind fin))
    | exact wpAny_bind fin
theorem dict_typeIs {X : Cx} {pins : List (Addr × Obj)} {σ : St} {H : Hp} {s : Shared} {a : Addr} {y : V} {o : Option V} (I : Inv X pins σ H s) (g : DGet H a y o) : s.TypeIs (.ref a) "dict" := by
  rcases g with ⟨kvs, k, e, _, _⟩ | ⟨kvs, k, b, e, _, _, _⟩
  · obtain ⟨_, _, vs, _, dd⟩ := dk_rd I.hok e
    exact dd.typeIs
  · obtain ⟨_, _, xs, _, dd⟩ := dt_rd I.hok e
    exact dd.typeIs
def tDGet (td ty : TE) : TE := fun σ H Q => td σ H fun x H1 => ty σ H1 fun y H2 => ∃ a v, x = .ref a ∧ DGet H2 a y (some v) ∧ Q v H2
def tDIn (ty td : TE) : TE := fun σ H Q => ty σ H fun y H1 => td σ H1 fun x H2 => ∃ a o, x = .ref a ∧ DGet H2 a y o ∧ Q (.bl o.isSome) H2
def tDNotIn (ty td : TE) : TE := fun σ H Q => ty σ H fun y H1 => td σ H1 fun x H2 => ∃ a o, x = .ref a ∧ DGet H2 a y o ∧ Q (.bl (!o.isSome)) H2
def sDPut (td ty tv : TE) : TS := fun D σ H => tv σ H fun v H1 => td σ H1 fun x H2 => ty σ H2 fun y H3 => ∃ a H4, x = .ref a ∧ DPut H3 a y v H4 ∧ D.nx σ H4
section
variable {X : Cx} {o i e value : Expr} {pos pos' tpos : Pos} {td ty tv : TE}
theorem pe_dget (hu : X.A.units + 1 < cLine) (ho : PE X o td) (hi : PE X i ty) (hs : NoSl i) : PE X (.Subscript o i pos) (tDGet td ty) := by
  intro pins s σ H Q I h
  refine subD_of PySem.F.slot_dict_getitem.lookup hs (thn (ho pins s σ H _ I h) fun u s1 ⟨x, H1, I1, rx, q1⟩ => thn (hi pins s1 σ H1 _ I1 q1) fun iv s2 ⟨y, H2, I2, ry, a, v, ex, g, q2⟩ => ?_)
  subst ex
  obtain rfl : u = Value.ref a := rx
  exact ⟨dict_typeIs I2 g, d_getItem hu I2 g ry fun w' s3 I3 rw' => ⟨v, H2, I3, rw', q2⟩⟩
theorem pc_din (hu : X.A.units + 1 < cLine) (hi : PE X i ty) (ho : PE X o td) : PC X .In i o (tDIn ty td) := by
  intro pins s σ H Q I h
  refine thn (hi pins s σ H _ I h) fun iv s1 ⟨y, H1, I1, ry, q1⟩ => thn (ho pins s1 σ H1 _ I1 q1) fun u s2 ⟨x, H2, I2, rx, a, ov, ex, g, q2⟩ => ?_
  subst ex
  obtain rfl : u = Value.ref a := rx
  exact d_in hu I2 g ry fun s3 I3 => ⟨.bl ov.isSome, H2, I3, rfl, q2⟩
theorem pc_dnotin (hu : X.A.units + 1 < cLine) (hi : PE X i ty) (ho : PE X o td) : PC X .NotIn i o (tDNotIn ty td) := by
  intro pins s σ H Q I h
  refine thn (hi pins s σ H _ I h) fun iv s1 ⟨y, H1, I1, ry, q1⟩ => thn (ho pins s1 σ H1 _ I1 q1) fun u s2 ⟨x, H2, I2, rx, a, ov, ex, g, q2⟩ => ?_
  subst ex
  obtain rfl : u = Value.ref a := rx
  exact d_notIn hu I2 g ry fun s3 I3 => ⟨.bl (!ov.isSome), H2, I3, rfl, q2⟩
theorem ps_dput (hu : X.A.units + 1 < cLine) (ho : PE X o td) (hi : PE X i ty) (hv : PE X value tv) (hs : swapsWith value (some (.Subscript o i pos')) pos.line X.env = pure false) :
    PS X (.Assign [.Subscript o i pos'] value pos) (sDPut td ty tv) := by
  intro pins s σ H D I h
  refine wpAny_Assign_Subscript (thn (hv pins s σ H _ I h) fun r s1 ⟨v, H1, I1, rv, q1⟩ => thn (ho pins s1 σ H1 _ I1 q1) fun u s2 ⟨x, H2, I2, rx, q2⟩ => thn (hi pins s2 σ H2 _ I2 q2) fun iv s3 ⟨y, H3, I3, ry, a, H4, ex, g, q3⟩ => ?_) hs
  subst ex
  obtain rfl : u = Value.ref a := rx
  exact d_setItem hu I3 g ry rv fun s4 I4 => ⟨σ, H4, I4, q3⟩
end
theorem dk_empty {P : Program} {w : World} {H : Hp} (h : Heap) (hb : sysModules < h.objs.size) : ObjOk P w H (h.push { cls := .type "dict", data := .dict #[] }) h.objs.size (.dK []) :=
  ⟨Nat.zero_le _, beq_eq_false_iff_ne.mpr (Ne.symm (Nat.ne_of_lt hb)), [], .nil, Heap.DictOf.new h⟩
def tDNewK : TE := fun _ H Q => ∀ p, H p = none → Q (.ref p) (upd H p (.dK []))
section
variable {X : Cx} {pos : Pos}
theorem pe_dnewK : PE X (.Dict [] [] pos) tDNewK := fun pins s σ H Q I h =>
  wpAny_Dict_empty ⟨.ref s.heap.objs.size, _, I.laid (a := s.heap.objs.size) (o := .dK []) (t' := s.toks) (fun _ _ q => Heap.get?_push_of_some _ q) (Nat.le_refl _) (dk_empty s.heap I.big), rfl, h _ (I.hok.fresh (Nat.le_refl _))⟩
end
def tPairs : List (TE × TE) → St → Hp → (List (V × V) → Hp → Prop) → Prop
  | [], _, H, Q => Q [] H
  | (tk, tv) :: r, σ, H, Q => tk σ H fun x H1 => tv σ H1 fun y H2 => tPairs r σ H2 fun ps H3 => Q ((x, y) :: ps) H3
abbrev VV : List (V × V) → List (Value × Value) → Prop := Paired fun p q => RelV p.1 q.1 ∧ RelV p.2 q.2
def PPs (X : Cx) (pos : Pos) (keys : List (Option Expr)) (values : List Expr) (trs : List (TE × TE)) : Prop :=
  ∀ (pins : List (Addr × Obj)) (s : Shared) (σ : St) (H : Hp) (Q : List (V × V) → Hp → Prop), Inv X pins σ H s → tPairs trs σ H Q →
    wpAny (model X.prog X.w) X.A (evalPairs (pairTrees keys values X.env pos)) (fun vs s' => ∃ ps H', Inv X pins σ H' s' ∧ VV ps vs ∧ Q ps H') X.xe s
theorem pps_nil {X : Cx} {pos : Pos} : PPs X pos [] [] [] := fun pins s σ H Q I h => pairTrees_nil_walk ⟨[], H, I, .nil, h⟩
theorem pps_cons {X : Cx} {pos : Pos} {k v : Expr} {ks : List (Option Expr)} {vs : List Expr} {tk tv : TE} {trs : List (TE × TE)} (hk : PE X k tk) (hv : PE X v tv) (hr : PPs X pos ks vs trs) :
    PPs X pos (some k :: ks) (v :: vs) ((tk, tv) :: trs) := fun pins s σ H Q I h =>
  pairTrees_cons_walk (thn (hk pins s σ H _ I h) fun u s1 ⟨x, H1, I1, rx, q1⟩ => thn (hv pins s1 σ H1 _ I1 q1) fun w2 s2 ⟨y, H2, I2, ry, q2⟩ =>
    thn (hr pins s2 σ H2 _ I2 q2) fun ws s3 ⟨ps, H3, I3, rel, q3⟩ => ⟨(x, y) :: ps, H3, I3, .cons ⟨rx, ry⟩ rel, q3⟩)
def mergeK (kvs more : List (Key × V)) : List (Key × V) := more.foldl (fun acc kv => putK acc kv.1 kv.2) kvs
theorem KV.merge : ∀ {more : List (Key × V)} {rs : List (Key × Value)} {kvs : List (Key × V)} {vs : List (Key × Value)}, KV more rs → KV kvs vs → KV (mergeK kvs more) (merged vs rs) := by
  intro more rs kvs vs r
  unfold KV at r
  induction r generalizing kvs vs with
  | nil => intro q; exact q
  | @cons p q ps qs h t ih =>
    intro r0
    have e : KV (putK kvs p.1 p.2) (stored vs q.1 q.2) := by
      have := r0.put p.1 h.2
      rw [← h.1]; exact this
    exact ih e
theorem length_mergeK : ∀ (more kvs : List (Key × V)), (mergeK kvs more).length ≤ kvs.length + more.length
  | [], kvs => by show kvs.length ≤ kvs.length + 0; omega
  | p :: r, kvs => by
    have h1 := length_mergeK r (putK kvs p.1 p.2)
    have h2 := length_putK kvs p.1 p.2
    show (mergeK (putK kvs p.1 p.2) r).length ≤ _
    rw [List.length_cons]; omega
theorem carries_of {P : Program} {w : World} : ∀ {kvs : List (Key × V)} {ws : List (Value × Value)}, VV (kvs.map fun kv => (kV kv.1, kv.2)) ws → ∃ rs, Carries (mixKind P w) ws rs ∧ KV kvs rs
  | [], _, r => by rw [List.map_nil] at r; cases r; exact ⟨[], True.intro, .nil⟩
  | p :: kvs, _, r => by
    rw [List.map_cons] at r
    cases r with
    | @cons a b as bs h t =>
      obtain ⟨rs, c, q⟩ := carries_of (P := P) (w := w) t
      obtain ⟨b1, b2⟩ := b
      exact ⟨(p.1, b2) :: rs, ⟨kV_is h.1, rfl, c⟩, .cons ⟨rfl, h.2⟩ q⟩
def tDisp (trs : List (TE × TE)) : TE := fun σ H Q => ∀ p, H p = none → tPairs trs σ (upd H p (.dK [])) fun ps H2 => H2 p = some (.dK []) ∧ ∃ kvs : List (Key × V), ps = kvs.map (fun kv => (kV kv.1, kv.2)) ∧ kvs.length ≤ 15 ∧ Q (.ref p) (upd H2 p (.dK (mergeK [] kvs)))
theorem pe_disp {X : Cx} {pos : Pos} {keys : List (Option Expr)} {values : List Expr} {trs : List (TE × TE)} (h : PPs X pos keys values trs) (hall : keys.all (·.isSome) = true) (hl : keys.length = values.length) (h0 : keys ≠ [])
    (h15 : keys.length ≤ 15) : PE X (.Dict keys values pos) (tDisp trs) := by
  intro pins s σ H Q I q
  have hn := I.hok.fresh (Nat.le_refl s.heap.objs.size)
  have I1 := I.laid (a := s.heap.objs.size) (o := .dK []) (h' := s.heap.push { cls := .type "dict", data := .dict #[] }) (t' := s.toks) (fun _ _ q => Heap.get?_push_of_some _ q) (Nat.le_refl _) (dk_empty s.heap I.big)
  refine wpAny_Dict_walk (knd := mixKind X.prog X.w) hall hl h0 h15 (thn (h pins _ σ _ _ I1 (q _ hn)) fun ws s2 ⟨ps, H2, I2, rel, e, kvs, ep, lk, q2⟩ => ?_)
  subst ep
  obtain ⟨rs, c, rk⟩ := carries_of (P := X.prog) (w := X.w) rel
  obtain ⟨z, hd, vs0, r0, dd⟩ := dk_of I2.hok e
  cases r0
  refine ⟨rs, c, dd, fun h' dd' hs => ⟨.ref s.heap.objs.size, _, ?_, rfl, q2⟩⟩
  have hz : (mergeK [] kvs).length ≤ sizeLine := by
    have h1 := length_mergeK kvs []
    rw [List.length_nil] at h1
    rw [sizeLine_eq]; omega
  have he : ∃ q, h'.get? s.heap.objs.size = some q := let ⟨q, _, _, hq, _⟩ := dd'; ⟨q, hq⟩
  exact d_write I2 (by rw [e]; exact True.intro) hs he (dk_new hz hd (rk.merge .nil) dd')
section
variable {X : Cx} {pins : List (Addr × Obj)} {σ : St} {H : Hp} {s : Shared} {a : Addr} {y d : V} {u r : Value} {o : Option V} {A : Around} {E : Value → Shared → Prop}
end
section
variable {X : Cx} {o e f : Expr} {apos cpos : Pos} {td ty tx : TE}
end
section
variable {X : Cx} {pins : List (Addr × Obj)} {σ : St} {H : Hp} {s : Shared} {a : Addr} {kvs : List (Key × V)} {A : Around} {E : Value → Shared → Prop}
end
section
variable {X : Cx} {pins : List (Addr × Obj)} {σ : St} {H : Hp} {s : Shared} {a : Addr} {y : V} {u : Value} {A : Around} {E : Value → Shared → Prop}
end
end L2
set_option maxRecDepth 100000
namespace L2
open PySem PySem.Spec PyProof.Rows
def RawD (h : Heap) (d : Addr) (es : Array DictEntry) (ep : Nat) : Prop := ∃ o, h.get? d = some o ∧ o.ExactDict ∧ o.data = .dict es ep
theorem RawD.to {h h' : Heap} {d : Addr} {es : Array DictEntry} {ep : Nat} (x : RawD h d es ep) (k : ∀ o, h.get? d = some o → h'.get? d = some o) : RawD h' d es ep := let ⟨o, a, r⟩ := x; ⟨o, k o a, r⟩
section
variable {prog : Program} {w : World} {A : Around} {E : Value → Shared → Prop} {s : Shared} {it d : Addr} {es : Array DictEntry} {i n ep : Nat}
theorem RawD.ty (x : RawD s.heap d es ep) : s.TypeIs (.ref d) "dict" := let ⟨o, a, c, _⟩ := x; ⟨o, a, c.1⟩
end
end L2
set_option maxRecDepth 100000
namespace L2
open PySem PySem.Spec PyProof.Rows
section
variable {X : Cx}
theorem raw_meets_len {prog : Program} {w : World} {d : Addr} (lo : (d == sysModules) = false) : MeetsIn prog w (Builtin.«dict.__len__» ⟨[.ref d], []⟩) (fun _ R s => ∃ es ep, RawD s.heap d es ep ∧ R (.ok (.ret (.int es.size s.toks))) { s with toks := s.toks + 1 }) :=
  .of_wp fun A R s ⟨es, ep, ⟨o, a, _, b⟩, h⟩ => by
    show wpAny _ _ (dictSize d >>= _) _ _ s; unfold dictSize; refine wpAny_bind (wpAny_bind (wpAny_dictEntries a b (wpAny_pure ?_)))
    show wpAny _ _ (Builtin.Dict.pendingCount d >>= _) _ _ s; refine wpAny_bind (wpAny_pendingCount_other lo (wpAny_ret_mkInt ?_))
    rw [Nat.add_zero]; exact h
theorem raw_len {prog : Program} {w : World} {A : Around} {E : Value → Shared → Prop} {s : Shared} {d : Addr} {es : Array DictEntry} {ep : Nat} {Q : Value → Shared → Prop} (lo : (d == sysModules) = false) (x : RawD s.heap d es ep) (fit : (es.size : Int) < 2 ^ 63)
    (h : Q (.int es.size (s.toks + 1)) { s with toks := s.toks + 1 + 1 }) : wpAny (model prog w) A (call (.builtin "len") [.ref d]) Q E s := by
  refine Calls.call_function_entry kind_len plain_len entry_len (args_len1 _) ?_
  unfold Builtin.«len»; refine wpAny_bind (m := oneArg "len" _) (wpAny_pure ?_)
  refine wpAny_bind (m := callSpecial? (.ref d) (Str.ofString "__len__")) (wpAny_callSpecial?_slot (name := Str.ofString "__len__") x.ty F.slot_dict_len (call_meetsIn F.slot_dict_len x.ty F.entry_dict_len (F.args_dict_len_1 _) (raw_meets_len lo) ⟨es, ep, x, ?_⟩))
  show wpAny _ _ _ _ _ { s with toks := s.toks + 1 }; refine wpAny_bind (wpAny_holding (wpAny_pure (wpAny_bind (wpAny_letGo ?_))))
  show wpAny _ _ (if ((es.size : Nat) : Int) < 0 then _ else _) _ _ _; rw [if_neg (by omega)]
  show wpAny _ _ (if ((es.size : Nat) : Int) ≥ 2 ^ 63 then _ else _) _ _ _; rw [if_neg (by omega)]
  exact wpAny_bind (wpAny_mkInt (wpAny_pure ⟨_, rfl, h⟩))
end
end L2
set_option maxRecDepth 100000
namespace L2
open PySem PySem.Spec PyProof.Rows
section
variable {X : Cx} {pins : List (Addr × Obj)} {σ : St} {H : Hp} {s : Shared} {d : Addr} {o : Obj} {kvs : List (Key × V)}
def NF (X : Cx) (d : Addr) : Prop := ∀ o u, X.H₀ d ≠ some (.frz o u)
theorem Inv.nf (I : Inv X pins σ H s) (hd : H d = some (.dK kvs)) : NF X d := fun o u z => by
  have := I.base.frzs d o u z
  rw [hd] at this; cases this
theorem stay_upd {P : Program} {w : World} {h : Heap} {a : Addr} {o u : HO} {H : Hp} {v : HO} (x : ObjOk P w H h a o) (hd : H d = some u) (h1 : ∀ b, u ≠ .own b) (h2 : ∀ xs, u ≠ .tup xs) : ObjOk P w (upd H d v) h a o :=
  x.stay (fun _ _ _ q => q) (fun b q => by rw [upd_ne (fun z => by rw [z, hd] at q; exact h1 _ (Option.some.inj q))]; exact q) fun b xs q => by rw [upd_ne (fun z => by rw [z, hd] at q; exact h2 _ (Option.some.inj q))]; exact q
theorem Inv.redress {u v : HO} (I : Inv X pins σ H s) (hd : H d = some u) (h1 : ∀ b, u ≠ .own b) (h2 : ∀ xs, u ≠ .tup xs) (h3 : ∀ ps, u ≠ .tbl ps) (h4 : ∀ o' u', X.H₀ d = some (.frz o' u') → False) (new : ObjOk X.prog X.w (upd H d v) s.heap d v) : Inv X pins σ (upd H d v) s where
  ok := I.ok
  os := I.os
  bare := I.bare
  base := ⟨I.base.keep, I.base.slot, fun b ob q n hx => by rw [upd_ne (fun z => by have := I.base.free b ob q n hx; rw [z, hd] at this; cases this)]; exact I.base.free b ob q n hx, I.base.there,
    fun b xs q => by have := I.base.tups b xs q; rw [upd_ne (fun z => by rw [z, hd] at this; exact h2 _ (Option.some.inj this))]; exact this,
    fun b ob w q => (upd_ne (fun z : b = d => h4 ob w (show X.H₀ d = some (.frz ob w) by rw [← z]; exact q))).trans (I.base.frzs b ob w q),
    fun b ps q => by obtain ⟨m, e⟩ := I.base.tbls b ps q; exact ⟨m, by rw [upd_ne (fun z => by rw [z, hd] at e; exact h3 _ (Option.some.inj e))]; exact e⟩⟩
  loc := I.loc
  cell := I.cell
  free := by rw [upd_ne (fun z => by have := I.free; rw [z, hd] at this; cases this)]; exact I.free
  freeC := fun x c e => by rw [upd_ne (fun z => by have := I.freeC x c e; rw [z, hd] at this; cases this)]; exact I.freeC x c e
  pin := fun p hp => by
    obtain ⟨a1, a2, a3⟩ := I.pin p hp
    exact ⟨a1, by rw [upd_ne (fun z => by rw [z, hd] at a2; cases a2)]; exact a2, a3⟩
  hok := fun a ob e => by
    by_cases ha : a = d
    · subst ha; rw [upd_same] at e; cases e; exact new
    · rw [upd_ne ha] at e; exact stay_upd (I.hok a ob e) hd h1 h2
  len := I.len
theorem Inv.freeze (I : Inv X pins σ H s) (hd : H d = some (.dK kvs)) (ho : s.heap.get? d = some o) : Inv X pins σ (upd H d (.frz o (.dK kvs))) s :=
  I.redress hd (fun _ z => nomatch z) (fun _ z => nomatch z) (fun _ z => nomatch z) (fun o u z => I.nf hd o u z) ⟨ho, stay_upd (I.hok d _ hd) hd (fun _ z => nomatch z) fun _ z => nomatch z⟩
theorem Inv.thaw (I : Inv X pins σ H s) (hd : H d = some (.frz o (.dK kvs))) (nf : NF X d) : Inv X pins σ (upd H d (.dK kvs)) s :=
  I.redress hd (fun _ z => nomatch z) (fun _ z => nomatch z) (fun _ z => nomatch z) (fun o u z => nf o u z) (stay_upd (I.hok d _ hd).2 hd (fun _ z => nomatch z) fun _ z => nomatch z)
end
def Itv (o : Obj) (d : Addr) : It :=
  ⟨fun i H => ∃ kvs kv, H d = some (.frz o (.dK kvs)) ∧ kvs[i]? = some kv, fun i H x H' => H' = H ∧ ∀ kvs, H d = some (.frz o (.dK kvs)) → ∃ kv, kvs[i]? = some kv ∧ x = kv.2, fun i H => ∃ kvs, H d = some (.frz o (.dK kvs)) ∧ kvs.length ≤ i⟩
section
variable {X : Cx} {pins : List (Addr × Obj)} {σ : St} {H : Hp} {s : Shared} {d : Addr} {o : Obj} {es : Array DictEntry} {ep : Nat} {kvs : List (Key × V)}
theorem Inv.frd (I : Inv X pins σ H s) (hd : H d = some (.frz o (.dK kvs))) (ed : o.data = .dict es ep) : ∃ vs, KV kvs vs ∧ s.heap.DictAt (mixKind X.prog X.w) d vs ep ∧ vs.length = es.size := by
  obtain ⟨ho, z, lo, vs, r, ob, es', ep', e1, c1, c2, c3, c4, c5⟩ := I.hok d _ hd
  rw [ho] at e1; cases e1
  rw [ed] at c2; cases c2
  refine ⟨vs, r, ⟨o, es, ho, c1, ed, c3, c4, c5⟩, ?_⟩
  have := c4.length
  rw [← this]; simp
theorem turn_vals {tg : Expr} {P : Program} {w : World} {K : PySem.W.Frag} (it d : Addr) (o : Obj) {es : Array DictEntry} {ep : Nat} (ed : o.data = .dict es ep) : Turn P w K tg (Itv o d) [it] it (fun i h => h.IsValIter it d i es.size ep) where
  mem := by simp
  obj := fun i h st b hb => by
    have e : b = it := by simpa using hb
    subst e
    obtain ⟨o, e, c, d⟩ := st
    exact ⟨o, e, fun v z => by rw [d] at z; cases z⟩
  keep := fun i h h' st k => st.at fun o e => k it (by simp) o e
  item := by
    intro X hP hw hK hc i pins s σ H E I hf st hg
    subst hP hw hK
    obtain ⟨kvs, kv, hd, hx⟩ := hg
    obtain ⟨vs, r, da, hl⟩ := I.frd hd ed
    obtain ⟨f0, f1, f2, f3, f4, f5⟩ := hf it (by simp)
    obtain ⟨q, hq, hr⟩ := Paired.at r hx
    rw [← hl] at st
    refine wpAny_pyNext_values_item st da (k := q.1) (v := q.2) hq fun h' st' sb => ?_
    have I1 : Inv X pins σ H { s with heap := h' } := I.turned (t' := s.toks) (fun b o hb e => (sb.2 b hb).trans e) f0 f1 f3 f4 f5
    obtain ⟨o', e', c', d'⟩ := id st'
    rw [hl] at st'
    refine ⟨q.2, rfl, go_of (s := { s with heap := h' }) e' c' d' (by decide) ⟨kv.2, H, I1, hr.2, ⟨rfl, fun kvs' hd' => ?_⟩, st', fun b hb => (hf b hb).1⟩⟩
    rw [hd] at hd'; cases hd'; exact ⟨kv, hx, rfl⟩
  done := by
    intro X hP hw hK hc i pins s σ H E I hf st hg
    subst hP hw hK
    obtain ⟨kvs, hd, hx⟩ := hg
    obtain ⟨vs, r, da, hl⟩ := I.frd hd ed
    obtain ⟨f0, f1, f2, f3, f4, f5⟩ := hf it (by simp)
    rw [← hl] at st
    have := KV.length r
    exact wpAny_pyNext_values_end (I.ok.hd hc) st da (List.getElem?_eq_none (by omega)) fun h' eb => ⟨rfl, I.turned (t' := s.toks) (fun b o hb e => eb b o hb e) f0 f1 f3 f4 f5⟩
  self := fun _ _ _ _ _ st h => wpAny_pyIter_valiter st h
end
section
variable {X : Cx} {tg : Expr}
def iDX (X : Cx) (J : Obj → Addr → It) (tl : TE) : TI := fun σ H R => ∃ Q : VK, tl σ H Q ∧ ∀ x H1, Q x H1 → ∃ d kvs, x = .ref d ∧ H1 d = some (.dK kvs) ∧ ∀ o, NF X d → R (J o d) (upd H1 d (.frz o (.dK kvs)))
theorem pi_vals {l : Expr} {tl : TE} {apos cpos : Pos} (hl : PE X l tl)
    (hbase : attributeBase l "values" X.env (eval l X.env) = eval l X.env := by rfl) (hline : (apos.endLine == cpos.line) = true := by rfl) : PI X tg (.Call (.Attribute l "values" apos) [] [] cpos) (iDX X Itv tl) := by
  intro pins s σ H R I h
  obtain ⟨Q, hq, h⟩ := h
  refine wpAny_Call_method0_late hbase hline (thn (hl pins s σ H _ I hq) fun v s1 ⟨x, H1, I1, r1, q1⟩ => ?_)
  obtain ⟨d, kvs, e, hd, q⟩ := h x H1 q1
  subst e
  cases r1
  obtain ⟨z, lo, vs, r, ob, es, ep, ho, c1, c2, c3, c4, c5⟩ := (show ObjOk X.prog X.w H1 s1.heap d (.dK kvs) from I1.hok d _ hd)
  have hsz : vs.length = es.size := by rw [← c4.length]; simp
  have da : s1.heap.DictAt (mixKind X.prog X.w) d vs ep := ⟨ob, es, ho, c1, c2, c3, c4, c5⟩
  refine ⟨"dict", "dict.values", F.plainAttrs_dict, F.slot_dict_values, F.type_dict_values, da.dictOf.typeIs, fun a e2 => ?_, Calls.callWith_builtin rfl (PySem.evalArgs_none ?_)⟩
  · cases e2
    exact ⟨ob, ho, c1.2.1⟩
  refine call_meetsIn F.slot_dict_values da.dictOf.typeIs F.entry_dict_values (F.args_dict_values_1 _) (meets_dict_values (mixKind X.prog X.w) d lo) ⟨⟨vs, da.dictOf⟩, ?_⟩
  have I2 := (I1.freeze hd ho).kept (t' := s1.toks) (h' := s1.heap.push { cls := .type "dict_values", data := .fields #[.ref d] }) fun b o e => Heap.get?_push_of_some _ e
  show wpAny _ _ _ _ _ { s1 with heap := s1.heap.push { cls := .type "dict_values", data := .fields #[.ref d] } }
  refine wpAny_pyIter_values (s := { s1 with heap := s1.heap.push { cls := .type "dict_values", data := .fields #[.ref d] } }) ⟨_, Heap.get?_push_size _ rfl, rfl, rfl⟩ (da.push _) ?_
  rw [hsz]
  refine ⟨_, [(s1.heap.push { cls := .type "dict_values", data := .fields #[.ref d] }).objs.size], _, _, _, rfl, I2.kept (t' := s1.toks) fun b o e => Heap.get?_push_of_some _ e, turn_vals _ d ob c2, ⟨_, Heap.get?_push_size _ rfl, rfl, rfl⟩, fun b hb => ?_, q ob (I1.nf hd)⟩
  have e : b = (s1.heap.push { cls := .type "dict_values", data := .fields #[.ref d] }).objs.size := by simpa using hb
  subst e
  exact I2.fpOk (Nat.le_refl _) (I2.hok.fresh (Nat.le_refl _))
def endsT (N : Addr → Prop) (D : Ends) : Ends where
  nx := fun σ H => ∃ d o kvs, N d ∧ H d = some (.frz o (.dK kvs)) ∧ D.nx σ (upd H d (.dK kvs))
  rt := fun v H => ∃ d o kvs, N d ∧ H d = some (.frz o (.dK kvs)) ∧ D.rt v (upd H d (.dK kvs))
  bk := fun σ H => ∃ d o kvs, N d ∧ H d = some (.frz o (.dK kvs)) ∧ D.bk σ (upd H d (.dK kvs))
  ct := fun σ H => ∃ d o kvs, N d ∧ H d = some (.frz o (.dK kvs)) ∧ D.ct σ (upd H d (.dK kvs))
def tForD (J : Obj → Addr → It) (tl : TE) (g : TG) (tb : TS) : TS := fun D σ H => tl σ H fun x H1 => ∃ d kvs, x = .ref d ∧ H1 d = some (.dK kvs) ∧ ∀ (o : Obj) (N : Addr → Prop), N d →
  ∃ W : Nat → Nat → St → Hp → Prop, (∃ m, W 0 m σ (upd H1 d (.frz o (.dK kvs)))) ∧ ∀ i m σ H, W i m σ H →
    ((J o d).stop i H ∧ (endsT N D).nx σ H) ∨ ((J o d).go i H ∧ ∃ M : St → Hp → Prop, (∀ σ' H', M σ' H' → ∃ m', m' < m ∧ W (i + 1) m' σ' H') ∧ ∀ x H', (J o d).yld i H x H' → g x σ H' fun σ2 H2 => tb { endsT N D with nx := M, ct := M, bk := (endsT N D).nx } σ2 H2)
theorem SP.thaw {pins : List (Addr × Obj)} {D : Ends} {f : Flow} {s : Shared} (h : SP X pins (endsT (NF X) D) f s) : SP X pins D f s := by
  cases f with
  | next => obtain ⟨σ, H, I, d, o, kvs, nf, e, q⟩ := h; exact ⟨σ, _, I.thaw e nf, q⟩
  | brk => obtain ⟨σ, H, I, d, o, kvs, nf, e, q⟩ := h; exact ⟨σ, _, I.thaw e nf, q⟩
  | cont => obtain ⟨σ, H, I, d, o, kvs, nf, e, q⟩ := h; exact ⟨σ, _, I.thaw e nf, q⟩
  | ret v => obtain ⟨x, σ, H, I, r, d, o, kvs, nf, e, q⟩ := h; exact ⟨x, σ, _, I.thaw e nf, r, q⟩
theorem ps_forD {J : Obj → Addr → It} {iter : Expr} {body : List Stmt} {tl : TE} {g : TG} {tb : TS} {pos : Pos} (hp : PassesOwn (model X.prog X.w) X.A X.env X.xe) (hc : X.calm = true) (hi : PI X tg iter (iDX X J tl)) (hg : PG X tg g) (hb : PSs X body tb)
    (hs : ∀ x, foldedSetIterable iter X.env x = pure x := by intro _; rfl) : PS X (.For tg iter body [] pos) (tForD J tl g tb) := by
  intro pins s σ H D I h
  exact thn (ps_for hp hc hi hg hb hs pins s σ H (endsT (NF X) D) I ⟨_, h, fun x H1 ⟨d, kvs, e, hd, r⟩ => ⟨d, kvs, e, hd, fun o nf => r o _ nf⟩⟩) fun f s' q => SP.thaw q
variable {elt iter : Expr} {ifs : List Expr} {scope : Scope} {pos : Pos} {nT : Nat} {js : List Nat} {N' : List Str} {g : TG} {tt : TT} {te : TE}
def tCompD (J : Obj → Addr → It) (tl : TE) (nT : Nat) (js : List Nat) (g : TG) (tt : TT) (te : TE) : TE := fun σ H Q => tl σ H fun x H1 => ∃ d kvs, x = .ref d ∧ H1 d = some (.dK kvs) ∧ ∀ (o : Obj) (N : Addr → Prop), N d →
  compRd nT js g tt te σ (fun l H' => ∃ d o kvs, N d ∧ H' d = some (.frz o (.dK kvs)) ∧ Q (.ref l) (upd H' d (.dK kvs))) (J o d) (upd H1 d (.frz o (.dK kvs)))
theorem pe_compD {J : Obj → Addr → It} {tl : TE} (hc : X.calm = true) (S : CompScope X scope nT js N') (hi : PI X tg iter (iDX X J tl))
    (hg : ∀ cells C s H fp, PG (cxComp X scope N' cells C s H fp) tg g) (ht : ∀ cells C s H fp, PIfs (cxComp X scope N' cells C s H fp) ifs tt) (he : ∀ cells C s H fp, PE (cxComp X scope N' cells C s H fp) elt te)
    (hs : ∀ x, foldedSetIterable iter X.env x = pure x := by intro _; rfl) : PE X (.ListComp elt [⟨tg, iter, ifs, 0⟩] scope pos) (tCompD J tl nT js g tt te) := by
  intro pins s σ H Q I h
  refine thn (pe_comp hc S hi hg ht he hs pins s σ H (fun v H' => ∃ d o kvs, NF X d ∧ H' d = some (.frz o (.dK kvs)) ∧ Q v (upd H' d (.dK kvs))) I ⟨_, h, fun x H1 ⟨d, kvs, e, hd, r⟩ => ⟨d, kvs, e, hd, fun o nf => r o _ nf⟩⟩) fun u s' ⟨v, H', I', r', d, o, kvs, nf, e, q⟩ => ⟨v, _, I'.thaw e nf, r', q⟩
end
end L2
set_option maxRecDepth 100000
namespace L2
open PySem PySem.Spec PyProof.Rows
def sgn (x : Str) (i : Nat) : Str := ⟨#[x.cps.getD i 0]⟩
def Its (x : Str) : It := ⟨fun i _ => i < x.cps.size, fun i H v H' => H' = H ∧ v = .str (sgn x i), fun i _ => i = x.cps.size⟩
theorem turn_str {tg : Expr} {P : Program} {w : World} {K : PySem.W.Frag} (it : Addr) (x : Str) (t : Tok) (ty : String) (hty : ["enumerate", "zip", "dict_itemiterator", "dict_reverseitemiterator", "odict_iterator", "itertools.zip_longest", "itertools.pairwise"].contains ty = false)
    (W : ∀ A : Around, A.handled = none → Walks P w A it [it] [it] x.cps.size (SignAt x) (fun i h => h.IsStrIter it ty x t i))
    (hself : ∀ (A : Around) (i : Nat) (s : Shared) (Q : Value → Shared → Prop) (E : Value → Shared → Prop), s.heap.IsStrIter it ty x t i → Q (.ref it) s → wpAny (model P w) A (pyIter (.ref it)) Q E s) : Turn P w K tg (Its x) [it] it (fun i h => h.IsStrIter it ty x t i) where
  mem := by simp
  obj := fun i h st b hb => by
    have e : b = it := by simpa using hb
    subst e
    obtain ⟨o, e, c, d⟩ := st
    exact ⟨o, e, fun v z => by rw [d] at z; cases z⟩
  keep := fun i h h' st k => by
    obtain ⟨o, e, r⟩ := st
    exact ⟨o, k it (by simp) o e, r⟩
  item := by
    intro X hP hw hK hc i pins s σ H E I hf st hg
    subst hP hw hK
    obtain ⟨f0, f1, f2, f3, f4, f5⟩ := hf it (by simp)
    refine (W X.A (I.ok.hd hc)).item i s _ _ hg st fun v h' tk hv st' kk => ?_
    obtain ⟨c, u, hcx, rfl⟩ := hv
    have I1 : Inv X pins σ H { s with heap := h', toks := tk } := I.turned (fun b o hb e => kk b o (by simpa using hb) e) f0 f1 f3 f4 f5
    obtain ⟨o', e', c', d'⟩ := id st'
    refine ⟨_, rfl, go_of (s := { s with heap := h', toks := tk }) e' c' d' hty ⟨.str (sgn x i), H, I1, ⟨u, ?_⟩, ⟨rfl, rfl⟩, st', fun b hb => (hf b hb).1⟩⟩
    unfold sgn
    rw [Array.getD_eq_getD_getElem?, hcx]
    rfl
  done := by
    intro X hP hw hK hc i pins s σ H E I hf st hg
    subst hP hw hK
    obtain ⟨f0, f1, f2, f3, f4, f5⟩ := hf it (by simp)
    have hi : i = x.cps.size := hg
    subst hi
    exact (W X.A (I.ok.hd hc)).done s _ _ st fun h' tk kk => ⟨rfl, I.turned (t' := tk) (fun b o hb e => kk b o (by simpa using hb) e) f0 f1 f3 f4 f5⟩
  self := fun A i s Q E st h => hself A i s Q E st h
section
variable {X : Cx} {tg : Expr}
def iStr (tl : TE) : TI := fun σ H R => tl σ H fun v H1 => ∃ x, v = .str x ∧ R (Its x) H1
theorem pi_str {l : Expr} {tl : TE} (hl : PE X l tl) : PI X tg l (iStr tl) := by
  intro pins s σ H R I h
  refine thn (hl pins s σ H _ I h) fun v s1 ⟨z, H1, I1, r1, q1⟩ => ?_
  obtain ⟨x, rfl, q⟩ := q1
  obtain ⟨t, rfl⟩ := r1
  have fp : ∀ (b : Addr), b ∈ [s1.heap.objs.size] → FpOk X pins H1 b := fun b hb => by
    have e : b = s1.heap.objs.size := by simpa using hb
    subst e
    exact I1.fpOk (Nat.le_refl _) (I1.hok.fresh (Nat.le_refl _))
  cases ha : x.cps.all (· < 128)
  · refine wpAny_pyIter_wide ha ?_
    exact ⟨s1.heap.objs.size, [s1.heap.objs.size], _, _, H1, rfl, I1.kept (t' := s1.toks) fun b o e => Heap.get?_push_of_some _ e, turn_str _ x t "str_iterator" (by decide) (fun A' hA => Walks.strWide hA _ x t) (fun A i s Q E st h => wpAny_pyIter_striter_wide st h), ⟨_, Heap.get?_push_size _ rfl, rfl, rfl⟩, fp, q⟩
  · refine wpAny_pyIter_ascii ha ?_
    exact ⟨s1.heap.objs.size, [s1.heap.objs.size], _, _, H1, rfl, I1.kept (t' := s1.toks) fun b o e => Heap.get?_push_of_some _ e, turn_str _ x t "str_ascii_iterator" (by decide) (fun A' hA => Walks.strAscii hA _ x t) (fun A i s Q E st h => wpAny_pyIter_striter_ascii st h), ⟨_, Heap.get?_push_size _ rfl, rfl, rfl⟩, fp, q⟩
theorem all_range {bs : List Bool} : (List.range bs.length).all (fun i => bs.getD i true) = bs.all id := by
  rw [Bool.eq_iff_iff]
  simp only [List.all_eq_true, List.mem_range]
  constructor
  · intro h b hb
    obtain ⟨i, hi, rfl⟩ := List.getElem_of_mem hb
    have := h i hi
    rwa [List.getD_eq_getElem?_getD, List.getElem?_eq_getElem hi] at this
  · intro h i hi
    rw [List.getD_eq_getElem?_getD, List.getElem?_eq_getElem hi]
    exact h _ (List.getElem_mem hi)
theorem call_allB (K : PySem.W.Frag) (hc : X.calm = true) (hK : X.K = K := by rfl) : CallR X (.builtin "all") (fun xs H Q => ∃ (p : Addr) (bs : List Bool), xs = [.ref p] ∧ SqL K H p (bs.map V.bl) ∧ Q (.bl (bs.all id)) H) := by
  subst hK
  intro pins s σ H xs us Q I r h
  obtain ⟨p, bs, rfl, hq, q⟩ := h
  obtain ⟨u, rfl, r1⟩ := vals1 r
  cases r1
  obtain ⟨its, rv, pl, hz⟩ := I.list hq
  have hlen : its.length = bs.length := by have := rv.length; rw [List.length_map] at this; omega
  have hpn : p ≠ s.heap.objs.size := by
    obtain ⟨_, _, e, _⟩ := pl
    exact Nat.ne_of_lt (Heap.lt_size e)
  refine call_all_walk ?_
  refine wpAny_pyIter_list pl.isList ?_
  refine ⟨s.heap.objs.size, [s.heap.objs.size, p], [s.heap.objs.size], its.toArray.size, _, _, fun i => bs.getD i true, rfl, Walks.list (A := X.A.in1) (I.ok.hd hc) _ p hpn its.toArray, ⟨⟨_, Heap.get?_push_size _ rfl, rfl, rfl⟩, pl.isList.push _⟩, fun i v s' Q' E' hv hQ => ?_, fun h' tk hk => ?_⟩
  · have hv : its[i]? = some v := by simpa using hv
    have hi : i < bs.length := by rw [← hlen]; exact (List.getElem?_eq_some_iff.mp hv).1
    have hb : (bs.map V.bl)[i]? = some (V.bl bs[i]) := by rw [List.getElem?_map, List.getElem?_eq_getElem hi]; rfl
    obtain ⟨w1, e1, r1⟩ := rv.get hb
    rw [hv] at e1; cases e1
    obtain rfl : v = Value.bool bs[i] := r1
    dsimp only at hQ
    rw [List.getD_eq_getElem?_getD, List.getElem?_eq_getElem hi] at hQ
    exact wpAny_truthy_bool hQ
  · have e : its.toArray.size = bs.length := by simp [hlen]
    rw [e, all_range]
    refine ⟨.bl (bs.all id), H, I.kept (t' := tk) fun b o e => hk b o (fun z => ?_) (Heap.get?_push_of_some _ e), rfl, q⟩
    have z' : b = s.heap.objs.size := by simpa using z
    exact absurd (Heap.lt_size e) (by rw [z']; exact Nat.lt_irrefl _)
theorem call_len_dK : CallR X (.builtin "len") (fun xs H Q => ∃ d kvs, xs = [.ref d] ∧ H d = some (.dK kvs) ∧ Q (.int kvs.length) H) := by
  intro pins s σ H xs us Q I r h
  obtain ⟨d, kvs, rfl, hd, q⟩ := h
  obtain ⟨u, rfl, rx⟩ := vals1 r
  cases rx
  obtain ⟨z, lo, vs, rel, o, es, ep, ho, hx, hdat, hk, hp, hnd⟩ := (show ObjOk X.prog X.w H s.heap d (.dK kvs) from I.hok d _ hd)
  have hl : es.size = kvs.length := by rw [KV.length rel, ← hp.length]; simp
  refine raw_len lo ⟨o, ho, hx, hdat⟩ (by rw [hl]; have : kvs.length ≤ 2 ^ 24 := z; omega) ?_
  rw [hl]
  exact ⟨.int kvs.length, H, I.tok _, ⟨_, rfl⟩, q⟩
variable {k : Nat} {C : Addr} {ps : List Str} {sp : Sp} {x m : Str} {p pos apos : Pos} {o : Expr} {ta : TE}
theorem pe_meth0D {pl : Sem Bool} (he : PE X o ta) (D : Dm X.prog X.w X.K X.mg X.base k C m ps sp) (hr : Room k X.A)
    (ht : eval (.Call (.Attribute o m apos) [] [] pos) X.env = (do
      let ov ← eval o X.env
      standAt apos.atName
      let (f, first) ← holding [ov] (getMethod ov m pl)
      callWith pos f first (backTo pos (starEach [] X.env)) (backToKw pos (keywordEach [] X.env))) := by rfl) :
    PE X (.Call (.Attribute o m apos) [] [] pos) (tMeth C m sp [] E0 ta tNil) := by
  obtain ⟨f, fd, cl, hm, b, F⟩ := D
  exact pe_meth0 he cl hm F hr b .nil pass0 ht
theorem pe_make0D (D : Dk X.prog X.w X.K X.mg X.base k x C ps sp) (hr : Room (k + 1) X.A) (hg : Gl X x) (hdb : (x == ("__debug__" : Str)) = false := by decide) :
    PE X (.Call (.Name x p) [] [] pos) (tMake C sp [] E0 tNil) := by
  obtain ⟨f, fd, hm, M, b, F⟩ := D
  exact pe_make0 M F hr hg hm b .nil pass0 hdb
def tMethC (Cs : Addr → Prop) (m : Str) (sp : Addr → Sp) (ta : TE) : TE := fun σ H Q => ta σ H fun x H1 => ∃ a C dx fs, x = .ref a ∧ Cs C ∧ H1 a = some (.ins C dx fs) ∧ fs.lookup m = none ∧ sp C [x] H1 Q E0
theorem pe_meth0C {pl : Sem Bool} {Cs : Addr → Prop} {sp : Addr → Sp} (he : PE X o ta) (D : ∀ C, Cs C → Dm X.prog X.w X.K X.mg X.base k C m ps (sp C)) (hr : Room k X.A)
    (ht : eval (.Call (.Attribute o m apos) [] [] pos) X.env = (do
      let ov ← eval o X.env
      standAt apos.atName
      let (f, first) ← holding [ov] (getMethod ov m pl)
      callWith pos f first (backTo pos (starEach [] X.env)) (backToKw pos (keywordEach [] X.env))) := by rfl) :
    PE X (.Call (.Attribute o m apos) [] [] pos) (tMethC Cs m sp ta) := by
  intro pins s σ H Q I h
  refine PySem.W.methodCall_KW (pl := pl) (thn (he pins s σ H _ I h) fun u s1 ⟨x, H1, I1, rx, a, C, dx, fs, ex, hC, ea, l, q⟩ => ?_) ht
  subst ex
  obtain rfl : u = Value.ref a := rx
  obtain ⟨f, fd, cl, hm, b, F⟩ := D C hC
  refine getmeth_ok I1 ea cl hm l ?_
  exact PySem.W.callWith_K0 (first := [.ref a]) I1.kIn hm.kp (run_fn (us := [.ref a]) (vs := [.ref a]) (dvs := []) F hr b .nil pass0 I1 (.cons rfl .nil) q)
end
end L2
set_option maxRecDepth 100000
namespace L2
open PySem PySem.Spec PyProof.Rows
def Itp (pr : Key × V → V) (o : Obj) (d : Addr) : It :=
  ⟨fun i H => ∃ kvs kv, H d = some (.frz o (.dK kvs)) ∧ kvs[i]? = some kv, fun i H x H' => H' = H ∧ ∀ kvs, H d = some (.frz o (.dK kvs)) → ∃ kv, kvs[i]? = some kv ∧ x = pr kv, fun i H => ∃ kvs, H d = some (.frz o (.dK kvs)) ∧ kvs.length ≤ i⟩
theorem itv_eq : Itv = Itp (·.2) := rfl
theorem same_thaw {H H' : Hp} {d : Addr} {o : Obj} {kvs : List (Key × V)} (hd : H d = some (.dK kvs)) (e : Same (upd H d (.frz o (.dK kvs))) H') : Same H (upd H' d (.dK kvs)) := fun b u hb => by
  by_cases z : b = d
  · subst z; rw [hd] at hb; cases hb; exact upd_same
  · rw [upd_ne z]
    exact e b u (by rw [upd_ne z]; exact hb)
theorem thaw_same {H : Hp} {d : Addr} {o : HO} {kvs : List (Key × V)} (hd : H d = some (.dK kvs)) : upd (upd H d o) d (.dK kvs) = H := by
  funext b
  unfold upd
  by_cases z : b = d
  · subst z; rw [if_pos rfl, hd]
  · rw [if_neg z, if_neg z]
section
variable {pr : Key × V → V} {o : Obj} {d : Addr} {kvs : List (Key × V)}
theorem for_dict {g : TG} {tb : TS} {D : Ends} {σ : St} {H : Hp} (Pv : Nat → St → Hp → Prop) (h0 : Pv 0 σ H) (hl : ∀ i σ H, i ≤ kvs.length → Pv i σ H → H d = some (.frz o (.dK kvs)))
    (hs : ∀ (i : Nat) (kv : Key × V) σ H, kvs[i]? = some kv → Pv i σ H → g (pr kv) σ H fun σ2 H2 => tb { D with nx := Pv (i + 1), ct := Pv (i + 1), bk := D.nx } σ2 H2) (hd : ∀ σ H, Pv kvs.length σ H → D.nx σ H) :
    ∃ W : Nat → Nat → St → Hp → Prop, (∃ m, W 0 m σ H) ∧ ∀ i m σ H, W i m σ H →
      ((Itp pr o d).stop i H ∧ D.nx σ H) ∨ ((Itp pr o d).go i H ∧ ∃ N : St → Hp → Prop, (∀ σ' H', N σ' H' → ∃ m', m' < m ∧ W (i + 1) m' σ' H') ∧ ∀ x H', (Itp pr o d).yld i H x H' → g x σ H' fun σ2 H2 => tb { D with nx := N, ct := N, bk := D.nx } σ2 H2) := by
  refine ⟨fun i m σ H => m = kvs.length - i ∧ i ≤ kvs.length ∧ Pv i σ H, ⟨kvs.length, by simp, Nat.zero_le _, h0⟩, ?_⟩
  rintro i m σ H ⟨rfl, hi, p⟩
  have q := hl i σ H hi p
  by_cases hlt : i < kvs.length
  · refine .inr ⟨⟨kvs, kvs[i], q, by simp [hlt]⟩, Pv (i + 1), fun σ' H' p' => ⟨kvs.length - (i + 1), by omega, rfl, hlt, p'⟩, fun x H' y => ?_⟩
    obtain ⟨rfl, y⟩ := y
    obtain ⟨kv, e1, rfl⟩ := y kvs q
    exact hs i kv σ H' e1 p
  · have e : i = kvs.length := by omega
    subst e
    exact .inl ⟨⟨kvs, q, Nat.le_refl _⟩, hd σ H p⟩
variable {js : List Nat} {tt : TT} {te : TE} {σ : St} {F : Addr → Hp → Prop} {H : Hp}
theorem filter_succ {α : Type} (keep : Nat → Bool) (g : Nat → α) (i : Nat) : ((List.range (i + 1)).filter keep).map g = ((List.range i).filter keep).map g ++ (if keep i = true then [g i] else []) := by
  rw [List.range_succ, List.filter_append, List.map_append]
  by_cases c : keep i = true
  · simp [c]
  · simp [c]
theorem filter_short {α : Type} (keep : Nat → Bool) (g : Nat → α) (i : Nat) : (((List.range i).filter keep).map g).length ≤ i := by
  rw [List.length_map]
  exact Nat.le_trans (List.length_filter_le _ _) (by rw [List.length_range]; exact Nat.le_refl _)
theorem compG_dict (keep : Nat → Bool) (g : Nat → V) (hfr : H d = some (.frz o (.dK kvs))) (hz : kvs.length ≤ 1000)
    (hs : ∀ (i : Nat) (kv : Key × V) H2, kvs[i]? = some kv → Same H H2 → tt (some (pr kv) :: caps σ js) H2 fun b H4 => if b = true then te (some (pr kv) :: caps σ js) H4 fun v H5 => keep i = true ∧ v = g i ∧ Same H2 H5 else keep i = false ∧ Same H2 H4)
    (hd : ∀ l H', H l = none → Same H H' → H' l = some (.lst (((List.range kvs.length).filter keep).map g)) → F l H') : compRd 1 js (gName 0) tt te σ F (Itp pr o d) H := by
  intro l hl0
  refine ⟨fun i m σ' H2 => m = kvs.length - i ∧ i ≤ kvs.length ∧ (∃ o, σ' = o :: caps σ js) ∧ Same H H2 ∧ H2 l = some (.lst (((List.range i).filter keep).map g)), ⟨kvs.length, by simp, Nat.zero_le _, ⟨none, rfl⟩, same_upd (Same.refl _) hl0, upd_same⟩, ?_⟩
  rintro i m σ' H2 ⟨rfl, hi, ⟨o', rfl⟩, e, hl⟩
  have q := e _ _ hfr
  by_cases hlt : i < kvs.length
  · refine .inr ⟨⟨kvs, kvs[i], q, by simp [hlt]⟩, fun x H3 y => ?_⟩
    obtain ⟨rfl, y⟩ := y
    obtain ⟨kv, e1, rfl⟩ := y kvs q
    refine ⟨fun H4 => keep i = false ∧ Same H3 H4, fun v H5 => keep i = true ∧ v = g i ∧ Same H3 H5, fun H4 ⟨k4, e4⟩ => ⟨_, ?_, rfl, hlt, ⟨_, rfl⟩, e.trans e4, ?_⟩, fun v H5 ⟨k5, ev, e5⟩ => ?_, hs i kv H3 e1 e⟩
    · omega
    · rw [filter_succ, k4]; simpa using e4 _ _ hl
    · subst ev
      refine ⟨_, e5 _ _ hl, Nat.lt_of_le_of_lt (filter_short keep g i) (Nat.lt_of_lt_of_le hlt (Nat.le_trans hz (by decide))), _, ?_, rfl, hlt, ⟨_, rfl⟩, same_new (e.trans e5) hl0, ?_⟩
      · omega
      · rw [upd_same, filter_succ, k5]; rfl
  · have ei : i = kvs.length := by omega
    subst ei
    exact .inl ⟨⟨kvs, q, Nat.le_refl _⟩, hd l H2 hl0 e hl⟩
theorem range_filter_map {α β : Type} (xs : List α) (keep : α → Bool) (g : α → β) (kp : Nat → Bool) (gi : Nat → β) (h : ∀ (i : Nat) (x : α), xs[i]? = some x → kp i = keep x ∧ gi i = g x) :
    ((List.range xs.length).filter kp).map gi = (xs.filter keep).map g := by
  have : ∀ n, n ≤ xs.length → ((List.range n).filter kp).map gi = ((xs.take n).filter keep).map g := by
    intro n
    induction n with
    | zero => intro _; rfl
    | succ n ih =>
      intro hn
      have hx : xs[n]? = some xs[n] := List.getElem?_eq_getElem (by omega)
      obtain ⟨h1, h2⟩ := h n _ hx
      rw [filter_succ, ih (by omega), List.take_add_one, hx, List.filter_append, List.map_append, h1]
      congr 1
      by_cases c : keep xs[n] = true
      · simp [c, h2]
      · simp [c]
  rw [this _ (Nat.le_refl _), List.take_of_length_le (Nat.le_refl _)]
end
end L2
set_option maxRecDepth 100000
namespace L2
open PySem PySem.Spec PyProof.Rows
abbrev G4 (K : PySem.W.Frag) : TG := gTup K 4 (gCons (gName 0) (gCons (gName 1) (gCons (gName 2) (gCons (gName 3) gNil))))
section
variable {K : PySem.W.Frag} {js : List Nat} {tt : TT} {te : TE} {σ : St} {F : Addr → Hp → Prop} {H : Hp}
theorem compP4_dict {o : Obj} {d : Addr} {kvs : List (Key × V)} (Pz : Nat → Hp → V → Prop) (mono : ∀ i H H' v, Same H H' → Pz i H v → Pz i H' v) (hfr : H d = some (.frz o (.dK kvs))) (hz : kvs.length ≤ 1000)
    (hf : ∀ (i : Nat) (kv : Key × V), kvs[i]? = some kv → ∃ p x1 x2 x3 x4, kv.2 = .ref p ∧ H p = some (.tup [x1, x2, x3, x4]))
    (hs : ∀ (i : Nat) (kv : Key × V) (p : Addr) (x1 x2 x3 x4 : V) H2, kvs[i]? = some kv → kv.2 = .ref p → H p = some (.tup [x1, x2, x3, x4]) → Same H H2 → te (some x1 :: some x2 :: some x3 :: some x4 :: caps σ js) H2 fun v H5 => Pz i H5 v ∧ Same H2 H5)
    (hd : ∀ l H' vs, H l = none → Same H H' → H' l = some (.lst vs) → vs.length = kvs.length → (∀ (i : Nat) v, vs[i]? = some v → Pz i H' v ∧ v ≠ .ref l) → F l H') (hne : ∀ i H v l, Pz i H v → (∃ ys, H l = some (.lst ys)) → v ≠ .ref l) (hup : ∀ i H v l ys, Pz i H v → v ≠ .ref l → Pz i (upd H l (.lst ys)) v) : compRd 4 js (G4 K) tYes te σ F (Itp (·.2) o d) H := by
  intro l hl0
  refine ⟨fun i m σ' H2 => m = kvs.length - i ∧ i ≤ kvs.length ∧ (∃ o1 o2 o3 o4, σ' = o1 :: o2 :: o3 :: o4 :: caps σ js) ∧ Same H H2 ∧ ∃ vs, H2 l = some (.lst vs) ∧ vs.length = i ∧ ∀ (j : Nat) v, vs[j]? = some v → Pz j H2 v ∧ v ≠ .ref l, ⟨kvs.length, by simp, Nat.zero_le _, ⟨none, none, none, none, rfl⟩, same_upd (Same.refl _) hl0, [], upd_same, rfl, fun j v z => by simp at z⟩, ?_⟩
  rintro i m σ' H2 ⟨rfl, hi, ⟨o1, o2, o3, o4, rfl⟩, e, vs, hl, vl, hv⟩
  have q := e _ _ hfr
  by_cases hlt : i < kvs.length
  · refine .inr ⟨⟨kvs, kvs[i], q, by simp [hlt]⟩, fun x H3 y => ?_⟩
    obtain ⟨rfl, y⟩ := y
    obtain ⟨kv, e1, rfl⟩ := y kvs q
    obtain ⟨p, x1, x2, x3, x4, ep, hp⟩ := hf i kv e1
    refine ⟨p, [x1, x2, x3, x4], ep, SqT.of (e _ _ hp), rfl, x1, [x2, x3, x4], rfl, x2, [x3, x4], rfl, x3, [x4], rfl, x4, [], rfl, rfl, ?_⟩
    refine ⟨fun _ => False, fun v H5 => Pz i H5 v ∧ Same H3 H5, fun H4 z => z.elim, fun v H5 ⟨p5, e5⟩ => ?_, hs i kv p x1 x2 x3 x4 H3 e1 ep hp e⟩
    refine ⟨vs, e5 _ _ hl, by rw [vl]; exact Nat.lt_of_lt_of_le hlt (Nat.le_trans hz (by decide)), _, ?_, rfl, hlt, ⟨_, _, _, _, rfl⟩, same_new (e.trans e5) hl0, vs ++ [v], upd_same, by simp [vl], fun j u hu => ?_⟩
    · omega
    · by_cases hj : j < vs.length
      · rw [List.getElem?_append_left hj] at hu
        obtain ⟨a1, a2⟩ := hv j u hu
        exact ⟨hup _ _ _ _ _ (mono _ _ _ _ e5 a1) a2, a2⟩
      · rw [List.getElem?_append_right (by omega)] at hu
        have h0 : j - vs.length = 0 := by
          have := (List.getElem?_eq_some_iff.mp hu).1
          simp at this
          omega
        rw [h0] at hu
        have : u = v := by simpa using hu.symm
        subst this
        have ji : j = i := by omega
        subst ji
        have nv := hne _ _ _ l p5 ⟨_, e5 _ _ hl⟩
        exact ⟨hup _ _ _ _ _ p5 nv, nv⟩
  · have ei : i = kvs.length := by omega
    subst ei
    exact .inl ⟨⟨kvs, q, Nat.le_refl _⟩, hd l H2 vs hl0 e hl vl hv⟩
end
end L2
set_option maxRecDepth 100000
namespace L2
open PySem PySem.Spec PyProof.Rows
structure FunD (K : PySem.W.Frag) (x qual : Str) (st : Stmt) (f : Addr) (fd : FuncData) : Prop where
  ex : ∃ (oc : Value) (od : Option Addr) (dV kV doc pm : Value) (an : Option Addr) (cdv ct : Value) (osl : Array (Option Value)),
    fd = PySem.W.fnOf x qual (defArgs st) (defBody st) (defScope st) dV kV doc pm an cdv ct ∧ K.lookup f = some ⟨oc, od, .func fd, osl⟩ ∧ PySem.W.codeIn K cdv qual = true
  kp : PySem.W.keepIn K (.ref f) = true
section
variable {P : Program} {w : World} {K : PySem.W.Frag} {mg : Str → Option Value} {base : Heap}
theorem FunD.okX {x qual : Str} {st : Stmt} {f : Addr} {fd : FuncData} {N ps : List Str} {k : Nat} {sp : Sp} (F : FunD K x qual st f fd) (S : FnScope N ps (defScope st)) (len : ∀ vs H Q E, sp vs H Q E → vs.length = ps.length)
    (hbody : ∀ (cdv : Value) (A : Around) (outer : List Env) (s : Shared) (H : Hp) (vs : List V) (Q : VK) (E : XK), Room k (A.deeper (envOfC qual (defScope st) s.heap.objs.size f cdv)) → sp vs H Q E →
      ∃ t, PSs (cxOf (CXE P w) P w K mg base N qual (defScope st) f cdv A outer s H E) (defBody st) t ∧ t { nx := fun _ H' => Q .non H', rt := Q } (start N vs) H) : FnOk P w K mg base (CXE P w) (k + 1) f fd ps sp := by
  obtain ⟨oc, od, dV, kV, doc, pm, an, cdv, ct, osl, rfl, lk, hcd⟩ := F.ex
  exact fn_of lk hcd S len fun A outer s H vs Q E hr hsp => hbody cdv A outer s H vs Q E hr hsp
end
end L2
set_option maxRecDepth 100000
namespace L2
open PySem PySem.Spec PyProof.Rows
section
variable {X : Cx} {tg : Expr}
theorem strs_of {zs : List Str} : ∀ {us : List Value}, Vals (zs.map V.str) us → ∃ l : List (Str × Tok), us = strValues l ∧ l.map (·.1) = zs := by
  induction zs with
  | nil => intro us r; cases r; exact ⟨[], rfl, rfl⟩
  | cons z zs ih =>
    intro us r
    rw [List.map_cons] at r
    cases r with
    | cons r1 r2 =>
      obtain ⟨t, rfl⟩ := r1
      obtain ⟨l, rfl, e⟩ := ih r2
      exact ⟨(z, t) :: l, rfl, by simp [e]⟩
def rJoin (K : PySem.W.Frag) : V → List V → Hp → VK → Prop := fun x vs H Q => ∃ (sep : Str) (p : Addr) (zs : List Str), x = .str sep ∧ vs = [.ref p] ∧ SqL K H p (zs.map V.str) ∧ sep.length ≤ 100 ∧ zs.length ≤ 1000 ∧ (∀ z ∈ zs, z.length ≤ 100) ∧ Q (.str (Str.join sep zs)) H
theorem fold_len (m : Nat) : ∀ (zs : List Str) (a : Nat), (∀ z ∈ zs, z.length ≤ 100) → zs.foldl (fun n z => n + z.length + m) a ≤ a + zs.length * (100 + m)
  | [], a, _ => by simp
  | z :: zs, a, h => by
    rw [List.foldl_cons, List.length_cons]
    have h1 := fold_len m zs (a + z.length + m) fun y hy => h y (by simp [hy])
    have h2 := h z (by simp)
    rw [Nat.add_mul]
    omega
theorem join_len (sep : Str) : ∀ (zs : List Str), (∀ z ∈ zs, z.length ≤ 100) → (Str.join sep zs).length ≤ zs.length * (100 + sep.length)
  | [], _ => by show (Str.empty).length ≤ _; simp [Str.empty, Str.length]
  | [z], h => by show z.length ≤ _; have := h z (by simp); simp; omega
  | z :: y :: r, h => by
    show (z ++ sep ++ Str.join sep (y :: r)).length ≤ _
    rw [Str.length_append, Str.length_append]
    have h1 := join_len sep (y :: r) fun x hx => h x (by simp at hx; simp [hx])
    have h2 := h z (by simp)
    rw [show (z :: y :: r).length = (y :: r).length + 1 from rfl, Nat.add_mul]
    omega
theorem mt_join (K : PySem.W.Frag) (hK : X.K = K := by rfl) : MtR X "str.join" (rJoin K) := by
  subst hK
  intro pins s σ H x vs v us Q I rx rv h
  obtain ⟨sep, p, zs, rfl, rfl, hq, hs, hn, hl, q⟩ := h
  obtain ⟨t, rfl⟩ := rx
  obtain ⟨u, rfl, ru⟩ := vals1 rv
  cases ru
  obtain ⟨its, r, pl, hz⟩ := I.list hq
  obtain ⟨l, rfl, el⟩ := strs_of r
  subst el
  have hm : (l.map (·.1)).length * (100 + sep.length) ≤ 1000 * 200 := Nat.mul_le_mul hn (by omega)
  have hb : Builtin.Str.tooLong ((l.map (·.1)).toArray.foldl (fun n z => n + z.length + sep.length) 0) = false := by
    have := fold_len sep.length (l.map (·.1)) 0 hl
    unfold Builtin.Str.tooLong
    rw [List.foldl_toArray]
    refine decide_eq_false fun z => ?_
    have e : sizeLine = 2 ^ 24 := rfl
    omega
  have hj : (Str.join sep (l.map (·.1))).length ≤ sizeLine := Nat.le_trans (join_len sep _ hl) (Nat.le_trans hm (by decide))
  refine call_meets F.slot_str_join (typeIs_str s sep t) F.entry_str_join (F.args_str_join_2 _ _) (meets_str_join_list sep t p l hb) ⟨pl.isList, ?_⟩
  have fin : ∀ t' tk, EP X pins σ Q (.str (Str.join sep (l.map (·.1))) t') { s with toks := tk } := fun t' tk => ⟨.str _, H, I.tok _, ⟨t', rfl⟩, q⟩
  clear hb hm r pl
  match l, fin, hj with
  | [], fin, hj => exact ⟨hj, fin _ _⟩
  | [a], fin, hj => exact fin a.2 s.toks
  | a :: b :: r, fin, hj =>
    have f2 := fin s.toks (s.toks + 1)
    rw [← StrLaws.glued_eq_join] at f2 hj
    exact ⟨hj, f2⟩
end
end L2
set_option maxRecDepth 100000
namespace L2
open PySem PySem.Spec PyProof.Rows
def Ite (K : PySem.W.Frag) (a : Addr) : It :=
  ⟨fun i H => ∃ xs x, SqL K H a xs ∧ xs[i]? = some x, fun i H v H' => ∃ T, H T = none ∧ v = .ref T ∧ ∃ x, (∀ xs, SqL K H a xs → xs[i]? = some x) ∧ H' = upd H T (.tup [.int i, x]), fun i H => ∃ xs, SqL K H a xs ∧ xs.length ≤ i⟩
def tnEn (e it a : Addr) (i : Nat) (h : Heap) : Prop := (∃ old, IsEnum h e it i old) ∧ h.IsListIter it a i
theorem turn_enum {P : Program} {w : World} {K : PySem.W.Frag} {elts : List Expr} {x1 : Nat} {tpos : Pos} (a e it : Addr) (ne : e ≠ it) : Turn P w K (.Tuple elts x1 tpos) (Ite K a) [e, it] e (tnEn e it a) where
  mem := by simp
  obj := fun i h st c hc => by
    obtain ⟨⟨old, h1⟩, ⟨o2, e2, c2, d2⟩⟩ := st
    simp only [List.mem_cons, List.not_mem_nil, or_false] at hc
    rcases hc with rfl | rfl
    · exact ⟨_, h1, fun v z => by cases z⟩
    · exact ⟨_, e2, fun v z => by rw [d2] at z; cases z⟩
  keep := fun i h h' st k => by
    obtain ⟨⟨old, h1⟩, h2⟩ := st
    exact ⟨⟨old, k e (by simp) _ h1⟩, h2.at fun o z => k it (by simp) o z⟩
  item := by
    intro X hP hw hK hc i pins s σ H E I hf st hg
    subst hP hw hK
    obtain ⟨xs, x, hx, ex⟩ := hg
    obtain ⟨⟨old, h1⟩, h2⟩ := st
    obtain ⟨its, rv, p, hz⟩ := I.list hx
    obtain ⟨w1, ew1, r1⟩ := rv.get ex
    refine wpAny_pyNext_enum_item h1 h2 p.isList (x := w1) (by simpa using ew1) ne fun h' a1 a2 a3 a4 a5 => ?_
    refine ⟨_, rfl, wpAny_letOwnedTupleGo_enum (s := { s with heap := h', toks := s.toks + 1 }) a1 fun h'' b1 sb => ?_⟩
    have hT : H s.heap.objs.size = none := I.hok.fresh (Nat.le_refl _)
    have zne : ∀ c ∈ [e, it], c ≠ s.heap.objs.size := fun c hc z => by
      have : ∃ o, s.heap.get? c = some o := by
        simp only [List.mem_cons, List.not_mem_nil, or_false] at hc
        obtain ⟨o2, e2, _⟩ := h2
        rcases hc with rfl | rfl
        · exact ⟨_, h1⟩
        · exact ⟨_, e2⟩
      obtain ⟨o, q⟩ := this
      exact absurd (Heap.lt_size q) (by rw [z]; exact Nat.lt_irrefl _)
    have kk : ∀ c o, c ∉ [e, it] → s.heap.get? c = some o → h''.get? c = some o := fun c o hc z => by
      simp only [List.mem_cons, List.not_mem_nil, or_false, not_or] at hc
      exact sb.extBut _ _ hc.1 (a5 c o hc.1 hc.2 z)
    have I1 : Inv X pins σ H { s with heap := h'', toks := s.toks + 1 } := I.turnedN (t' := s.toks + 1) (ch := [e, it]) hf kk
    have I2 : Inv X pins σ (upd H s.heap.objs.size (.tup [.int i, x])) { s with heap := h'', toks := s.toks + 1 } := by
      refine I1.track (I.fpOk (Nat.le_refl _) hT) I.sz ⟨by show 2 ≤ sizeLine; decide, [.int i s.toks, w1], .cons ⟨_, rfl⟩ (.cons r1 .nil), ?_⟩
      exact ⟨_, sb.extBut _ _ (Ne.symm (zne e (by simp))) a3, rfl, _, rfl⟩
    refine ⟨.ref s.heap.objs.size, _, I2, rfl, ⟨_, hT, rfl, x, fun xs' hx' => by rw [I.list_inj hx' hx]; exact ex, rfl⟩, ⟨⟨w1, ?_⟩, ?_⟩, fun c hc => ?_⟩
    · simpa using b1
    · exact a2.extBut sb.extBut (Ne.symm ne)
    · rw [upd_ne (zne c hc)]
      exact (hf c hc).1
  done := by
    intro X hP hw hK hc i pins s σ H E I hf st hg
    subst hP hw hK
    obtain ⟨xs, hx, hl⟩ := hg
    obtain ⟨⟨old, h1⟩, h2⟩ := st
    obtain ⟨its, rv, p, hz⟩ := I.list hx
    have l1 := rv.length
    refine wpAny_pyNext_enum_end (I.ok.hd hc) h1 h2 p.isList (by simp; omega) fun h' kk => ⟨rfl, I.turnedN (t' := s.toks) (ch := [e, it]) hf fun c o hc z => ?_⟩
    simp only [List.mem_cons, List.not_mem_nil, or_false, not_or] at hc
    exact kk c o hc.2 z
  self := fun _ _ _ _ _ st h => wpAny_pyIter_enum st.1.choose_spec h
theorem boot_enumerate : bootBuiltins "enumerate" = some (.type "enumerate") := by decide +kernel
def iEnum (K : PySem.W.Frag) (ta : TA) : TI := fun σ H R => ta σ H fun vs H1 => ∃ a xs, vs = [.ref a] ∧ H1 a = some (.lst xs) ∧ R (Ite K a) H1
theorem pi_enum {X : Cx} (K : PySem.W.Frag) {elts : List Expr} {x1 : Nat} {tpos : Pos} {e1 : Expr} {ta : TA} {p pos : Pos} (hg : Gl X "enumerate") (hm : X.mg "enumerate" = none) (ha : PA X [e1] ta) (hK : X.K = K := by rfl)
    (hs : starEach [e1] X.env = [(false, eval e1 X.env)] := by rfl) : PI X (.Tuple elts x1 tpos) (.Call (.Name "enumerate" p) [e1] [] pos) (iEnum K ta) := by
  subst hK
  intro pins s σ H R I h
  refine Call_ (ld_blt I hg hm boot_enumerate (PyProof.Rows.callWith_type1 (thn (ha pos pins s σ H _ I h) fun us s1 ⟨vs, H1, I1, r1, q1⟩ => ?_) hs rfl))
  obtain ⟨a, xs, rfl, hx, q⟩ := q1
  obtain ⟨u, rfl, ru⟩ := vals1 r1
  cases ru
  obtain ⟨its, n, rv, ho, hz⟩ := I1.lst hx
  refine call_enumerate_1 ho fun h' a1 a2 a3 a4 => wpAny_pyIter_enum a1 ?_
  have I2 : Inv X pins σ H1 { s1 with heap := h' } := I1.kept (t' := s1.toks) a4
  refine ⟨_, [s1.heap.objs.size + 1, s1.heap.objs.size], _, _, H1, rfl, I2, turn_enum a _ _ (Nat.ne_of_gt (Nat.lt_succ_self _)), ⟨⟨_, a1⟩, a2⟩, fun c hc => ?_, q⟩
  have le : @LE.le Nat _ s1.heap.objs.size c := by
    simp only [List.mem_cons, List.not_mem_nil, or_false] at hc
    rcases hc with rfl | rfl
    · exact Nat.le_succ _
    · exact Nat.le_refl _
  exact I1.fpOk (H' := H1) (b := c) le (I1.hok.fresh le)
theorem for_enum {K : PySem.W.Frag} {a : Addr} {xs : List V} {i1 i2 : Nat} {tb : TS} {D : Ends} {σ : St} {H : Hp} (Pv : Nat → St → Hp → Prop) (h0 : Pv 0 σ H) (hl : ∀ i σ H, i ≤ xs.length → Pv i σ H → SqL K H a xs)
    (hs : ∀ (i : Nat) (x : V) (T : Addr) σ H, xs[i]? = some x → Pv i σ H → H T = none → tb { D with nx := Pv (i + 1), ct := Pv (i + 1), bk := D.nx } ((σ.set i1 (some (.int i))).set i2 (some x)) (upd H T (.tup [.int i, x]))) (hd : ∀ σ H, Pv xs.length σ H → D.nx σ H) :
    ∃ W : Nat → Nat → St → Hp → Prop, (∃ m, W 0 m σ H) ∧ ∀ i m σ H, W i m σ H →
      ((Ite K a).stop i H ∧ D.nx σ H) ∨ ((Ite K a).go i H ∧ ∃ N : St → Hp → Prop, (∀ σ' H', N σ' H' → ∃ m', m' < m ∧ W (i + 1) m' σ' H') ∧ ∀ x H', (Ite K a).yld i H x H' → gTup K 2 (gCons (gName i1) (gCons (gName i2) gNil)) x σ H' fun σ2 H2 => tb { D with nx := N, ct := N, bk := D.nx } σ2 H2) := by
  refine ⟨fun i m σ H => m = xs.length - i ∧ i ≤ xs.length ∧ Pv i σ H, ⟨xs.length, by simp, Nat.zero_le _, h0⟩, ?_⟩
  rintro i m σ H ⟨rfl, hi, p⟩
  have q := hl i σ H hi p
  by_cases hlt : i < xs.length
  · refine .inr ⟨⟨xs, xs[i], q, by simp [hlt]⟩, Pv (i + 1), fun σ' H' p' => ⟨xs.length - (i + 1), by omega, rfl, hlt, p'⟩, fun v H' y => ?_⟩
    obtain ⟨T, hT, rfl, x, ex, rfl⟩ := y
    exact ⟨T, [.int i, x], rfl, SqT.of upd_same, rfl, _, [x], rfl, _, [], rfl, rfl, hs i x T σ H (ex xs q) p hT⟩
  · have e : i = xs.length := by omega
    subst e
    exact .inl ⟨⟨xs, q, Nat.le_refl _⟩, hd σ H p⟩
end L2
set_option maxRecDepth 100000
namespace L2
open PySem PySem.Spec PyProof.Rows
section
variable {X : Cx}
theorem vals_strs : ∀ (zs : List Str) (n : Nat), Vals (zs.map V.str) (strsFrom n zs)
  | [], _ => .nil
  | _ :: zs, n => .cons ⟨_, rfl⟩ (vals_strs zs (n + 1))
def rSplit : V → List V → Hp → VK → Prop := fun v vs H Q => ∃ (x y : Str), v = .str x ∧ vs = [.str y] ∧ y.length = 1 ∧ x.length ≤ 200000 ∧ NewQ H (.lst ((Txt.split x y).map V.str)) Q
theorem mt_split : MtR X "str.split" rSplit := by
  intro pins s σ H v vs u us Q I rx rv h
  obtain ⟨x, y, rfl, rfl, hy, hx, q⟩ := h
  obtain ⟨t, rfl⟩ := rx
  obtain ⟨u2, rfl, ru⟩ := vals1 rv
  obtain ⟨t2, rfl⟩ := ru
  have hx' : x.length ≤ sizeLine := Nat.le_trans hx (by decide)
  have hy' : (y.length == 0) = false := by rw [hy]; rfl
  have fin : ∀ (its : List Value) (tk : Nat), Vals ((Txt.split x y).map V.str) its → its.length ≤ sizeLine → EP X pins σ Q (.ref s.heap.objs.size) { s with toks := tk, heap := s.heap.push { cls := .type "list", data := .seq its.toArray } } := fun its tk r hz => by
    refine ⟨.ref _, _, I.laid (t' := tk) (o := .lst ((Txt.split x y).map V.str)) (fun b ob q => Heap.get?_push_of_some _ q) (Nat.le_refl _) ⟨by rw [r.length]; exact hz, its, 0, r, Heap.get?_push_size _ rfl⟩, rfl, q.at (I.hok.fresh (Nat.le_refl _))⟩
  cases h1 : (decide (x.length < y.length) || decide (Builtin.Str.strKind x < Builtin.Str.strKind y))
  · cases hf : (Builtin.Str.occurrences x y 0 x.length (x.length + 1)).isEmpty
    · have es : Txt.split x y = Builtin.Str.partsBetween x (Builtin.Str.occurrences x y 0 x.length (x.length + 1)) y.length := (if_neg (by rw [h1]; exact Bool.false_ne_true)).trans (if_neg (by rw [hf]; exact Bool.false_ne_true))
      have hn : (Builtin.Str.partsBetween x (Builtin.Str.occurrences x y 0 x.length (x.length + 1)) y.length).length ≤ sizeLine := by
        rw [← es]
        exact Nat.le_trans (split_le x y) (by have e : sizeLine = 2 ^ 24 := rfl; omega)
      refine call_meets F.slot_str_split (typeIs_str s x t) F.entry_str_split (F.args_str_split_2 _ _) (meets_str_split_sep x y t t2 h1 hy' hf hx' hn) ?_
      exact fin _ _ (by rw [es]; exact vals_strs _ _) (by rw [strsFrom_length]; exact hn)
    · have es : Txt.split x y = [x] := (if_neg (by rw [h1]; exact Bool.false_ne_true)).trans (if_pos hf)
      refine call_meets F.slot_str_split (typeIs_str s x t) F.entry_str_split (F.args_str_split_2 _ _) (meets_str_split_not_found x y t t2 h1 hy' hf) ?_
      exact fin [.str x t] s.toks (by rw [es]; exact .cons ⟨_, rfl⟩ .nil) (by show 1 ≤ sizeLine; decide)
  · have es : Txt.split x y = [x] := if_pos h1
    refine call_meets F.slot_str_split (typeIs_str s x t) F.entry_str_split (F.args_str_split_2 _ _) (meets_str_split_cannot_occur x y t t2 h1) ?_
    exact fin [.str x t] s.toks (by rw [es]; exact .cons ⟨_, rfl⟩ .nil) (by show 1 ≤ sizeLine; decide)
theorem call_int_num : CallR X (.type "int") (fun xs H Q => ∃ n : Int, xs = [.str (Str.ofString (toString n))] ∧ 0 ≤ n ∧ n < 10 ^ 10 ∧ Q (.int n) H) := by
  intro pins s σ H xs us Q I r h
  obtain ⟨n, rfl, h0, h1, q⟩ := h
  obtain ⟨u, rfl, ru⟩ := vals1 r
  obtain ⟨t, rfl⟩ := ru
  exact PySem.W.KIN.call_num h0 h1 ⟨.int n, H, I.tok _, ⟨_, rfl⟩, q⟩
end
theorem cps_join (c : Nat) : ∀ (zs : List Str), zs ≠ [] → ∃ z r, zs = z :: r ∧ (Str.join ⟨#[c]⟩ zs).cps.toList = z.cps.toList ++ (r.map fun y => c :: y.cps.toList).flatten
  | [], h => absurd rfl h
  | [z], _ => ⟨z, [], rfl, by show z.cps.toList = _; simp⟩
  | z :: y :: r, _ => by
    obtain ⟨y', r', e, h⟩ := cps_join c (y :: r) (fun z => nomatch z)
    injection e with e1 e2
    subst e1 e2
    refine ⟨z, y :: r, rfl, ?_⟩
    show (z ++ ⟨#[c]⟩ ++ Str.join ⟨#[c]⟩ (y :: r)).cps.toList = _
    rw [Str.cps_append, Str.cps_append, Array.toList_append, Array.toList_append, h]
    simp
theorem cut_first {c : Nat} : ∀ {a b u v : List Nat}, c ∉ a → c ∉ b → a ++ c :: u = b ++ c :: v → a = b ∧ u = v
  | [], [], _, _, _, _, h => ⟨rfl, by simpa using h⟩
  | [], y :: b, _, _, _, hb, h => by
    simp only [List.nil_append, List.cons_append, List.cons.injEq] at h
    exact absurd (by rw [h.1]; simp) hb
  | x :: a, [], _, _, ha, _, h => by
    simp only [List.nil_append, List.cons_append, List.cons.injEq] at h
    exact absurd (by rw [← h.1]; simp) ha
  | x :: a, y :: b, u, v, ha, hb, h => by
    simp only [List.cons_append, List.cons.injEq] at h
    obtain ⟨e1, e2⟩ := cut_first (fun z => ha (by simp [z])) (fun z => hb (by simp [z])) h.2
    exact ⟨by rw [h.1, e1], e2⟩
theorem flat_inj {c : Nat} : ∀ {z z' : List Nat} {r r' : List (List Nat)}, c ∉ z → c ∉ z' → (∀ y ∈ r, c ∉ y) → (∀ y ∈ r', c ∉ y) → z ++ (r.map fun y => c :: y).flatten = z' ++ (r'.map fun y => c :: y).flatten → z = z' ∧ r = r'
  | z, z', [], [], _, _, _, _, h => ⟨by simpa using h, rfl⟩
  | z, z', [], y' :: r', hz, _, _, _, h => by
    simp only [List.map_nil, List.flatten_nil, List.append_nil, List.map_cons, List.flatten_cons, List.cons_append] at h
    exact absurd (by rw [h]; simp) hz
  | z, z', y :: r, [], _, hz', _, _, h => by
    simp only [List.map_nil, List.flatten_nil, List.append_nil, List.map_cons, List.flatten_cons, List.cons_append] at h
    exact absurd (by rw [← h]; simp) hz'
  | z, z', y :: r, y' :: r', hz, hz', hr, hr', h => by
    simp only [List.map_cons, List.flatten_cons, List.cons_append] at h
    obtain ⟨e1, e2⟩ := cut_first hz hz' h
    obtain ⟨e3, e4⟩ := flat_inj (hr y (by simp)) (hr' y' (by simp)) (fun x hx => hr x (by simp [hx])) (fun x hx => hr' x (by simp [hx])) e2
    exact ⟨e1, by rw [e3, e4]⟩
theorem split_join {c : Nat} {zs : List Str} (hne : zs ≠ []) (hf : ∀ z ∈ zs, c ∉ z.cps.toList) : Txt.split (Str.join ⟨#[c]⟩ zs) ⟨#[c]⟩ = zs := by
  have h1 := StrLaws.join_split (Str.join ⟨#[c]⟩ zs) ⟨#[c]⟩
  have h2 := StrLaws.split_free (Str.join ⟨#[c]⟩ zs) c
  have h3 : Txt.split (Str.join ⟨#[c]⟩ zs) ⟨#[c]⟩ ≠ [] := fun z => by
    have := split_pos (Str.join ⟨#[c]⟩ zs) ⟨#[c]⟩
    rw [z] at this
    simp at this
  generalize Txt.split (Str.join ⟨#[c]⟩ zs) ⟨#[c]⟩ = ys at h1 h2 h3
  obtain ⟨z, r, rfl, e1⟩ := cps_join c zs hne
  obtain ⟨y, q, rfl, e2⟩ := cps_join c ys h3
  rw [h1, e1] at e2
  have l2 : ∀ l : List Str, (l.map fun y => c :: y.cps.toList) = (l.map fun y => y.cps.toList).map fun y => c :: y := fun l => by rw [List.map_map]; rfl
  rw [l2, l2] at e2
  obtain ⟨a1, a2⟩ := flat_inj (hf z (by simp)) (h2 y (by simp)) (fun x hx => by obtain ⟨w, hw, rfl⟩ := List.mem_map.mp hx; exact hf w (by simp [hw])) (fun x hx => by obtain ⟨w, hw, rfl⟩ := List.mem_map.mp hx; exact h2 w (by simp [hw])) e2
  have inj : ∀ {a b : Str}, a.cps.toList = b.cps.toList → a = b := fun {a b} h => Str.ext' (Array.toList_inj.mp h)
  have : ∀ {l l' : List Str}, l.map (fun y => y.cps.toList) = l'.map (fun y => y.cps.toList) → l = l' := by
    intro l
    induction l with
    | nil => intro l' h; cases l' with
      | nil => rfl
      | cons _ _ => cases h
    | cons x l ih => intro l' h; cases l' with
      | nil => cases h
      | cons x' l' =>
        simp only [List.map_cons, List.cons.injEq] at h
        rw [inj h.1, ih h.2]
  rw [inj a1, this a2]
end L2
set_option maxRecDepth 100000
namespace L2
open PySem PySem.Spec PyProof.Rows
theorem flat_kV (k : Key) : flatV (kV k) = true := by cases k <;> rfl
theorem eqV_kV (a b : Key) : eqV (kV a) (kV b) = decide (a = b) := by
  cases a with
  | inl a => cases b with
    | inl b => show (a == b) = _; rw [Bool.eq_iff_iff]; simp
    | inr b => exact (decide_eq_false (fun z => nomatch z)).symm
  | inr a => cases b with
    | inl b => exact (decide_eq_false (fun z => nomatch z)).symm
    | inr b => show (a == b) = _; rw [Bool.eq_iff_iff]; simp
def isTs (K : PySem.W.Frag) {α : Type} (R : Hp → V → α → Prop) : Hp → V → List α → Prop := fun H x as => ∃ p vs, x = .ref p ∧ SqT K H p vs ∧ Paired (R H) vs as
section
variable {K : PySem.W.Frag} {α : Type} [DecidableEq α] {R : Hp → V → α → Prop} {k : Nat}
theorem isTs_at (h : EqK K R k) {X : Cx} {A : Around} {pins : List (Addr × Obj)} {s : Shared} {σ : St} {H : Hp} {vs ws : List V} {its its2 : List Value} {as bs : List α} (hK : X.K = K) (I : Inv X pins σ H s) (r1 : Vals vs its) (r2 : Vals ws its2) (p1 : Paired (R H) vs as) (p2 : Paired (R H) ws bs) (hu : A.units + k < cLine) :
    ∀ j (h1 : j < its.toArray.size) (h2 : j < its2.toArray.size), SeqAt.EqAt A s its.toArray[j] its2.toArray[j] (decide (as[j]? = bs[j]?)) := fun j h1 h2 => by
  rw [List.size_toArray] at h1 h2
  obtain ⟨x, ex, rx⟩ := r1.at' (i := j) (u := its[j]) (by simp)
  obtain ⟨y, ey, ry⟩ := r2.at' (i := j) (u := its2[j]) (by simp)
  obtain ⟨a, ea, ra⟩ := Paired.at p1 ex
  obtain ⟨b, eb, rb⟩ := Paired.at p2 ey
  have := h.eq X A pins s σ H x y _ _ a b hK I rx ry ra rb hu
  rw [ea, eb]
  have e : decide (some a = some b) = decide (a = b) := by
    rw [Bool.eq_iff_iff, decide_eq_true_iff, decide_eq_true_iff]
    exact ⟨Option.some.inj, congrArg some⟩
  rw [e]
  simpa using this
end
section
variable {K : PySem.W.Frag} {js : List Nat} {te : TE} {σ : St} {F : Addr → Hp → Prop} {H : Hp}
theorem compP_dict {pr : Key × V → V} {o : Obj} {d : Addr} {kvs : List (Key × V)} (Pz : Nat → Hp → V → Prop) (mono : ∀ i H H' v, Same H H' → Pz i H v → Pz i H' v) (hfr : H d = some (.frz o (.dK kvs))) (hz : kvs.length ≤ 1000)
    (hs : ∀ (i : Nat) (kv : Key × V) H2, kvs[i]? = some kv → Same H H2 → te (some (pr kv) :: caps σ js) H2 fun v H5 => Pz i H5 v ∧ Same H2 H5)
    (hd : ∀ l H' vs, H l = none → Same H H' → H' l = some (.lst vs) → vs.length = kvs.length → (∀ (i : Nat) v, vs[i]? = some v → Pz i H' v ∧ v ≠ .ref l) → F l H') (hne : ∀ i H v l, Pz i H v → (∃ ys, H l = some (.lst ys)) → v ≠ .ref l) (hup : ∀ i H v l ys, Pz i H v → v ≠ .ref l → Pz i (upd H l (.lst ys)) v) : compRd 1 js (gName 0) tYes te σ F (Itp pr o d) H := by
  intro l hl0
  refine ⟨fun i m σ' H2 => m = kvs.length - i ∧ i ≤ kvs.length ∧ (∃ o1, σ' = o1 :: caps σ js) ∧ Same H H2 ∧ ∃ vs, H2 l = some (.lst vs) ∧ vs.length = i ∧ ∀ (j : Nat) v, vs[j]? = some v → Pz j H2 v ∧ v ≠ .ref l, ⟨kvs.length, by simp, Nat.zero_le _, ⟨none, rfl⟩, same_upd (Same.refl _) hl0, [], upd_same, rfl, fun j v z => by simp at z⟩, ?_⟩
  rintro i m σ' H2 ⟨rfl, hi, ⟨o1, rfl⟩, e, vs, hl, vl, hv⟩
  have q := e _ _ hfr
  by_cases hlt : i < kvs.length
  · refine .inr ⟨⟨kvs, kvs[i], q, by simp [hlt]⟩, fun x H3 y => ?_⟩
    obtain ⟨rfl, y⟩ := y
    obtain ⟨kv, e1, rfl⟩ := y kvs q
    refine ⟨fun _ => False, fun v H5 => Pz i H5 v ∧ Same H3 H5, fun H4 z => z.elim, fun v H5 ⟨p5, e5⟩ => ?_, hs i kv H3 e1 e⟩
    refine ⟨vs, e5 _ _ hl, by rw [vl]; exact Nat.lt_of_lt_of_le hlt (Nat.le_trans hz (by decide)), _, ?_, rfl, hlt, ⟨_, rfl⟩, same_new (e.trans e5) hl0, vs ++ [v], upd_same, by simp [vl], fun j u hu => ?_⟩
    · omega
    · by_cases hj : j < vs.length
      · rw [List.getElem?_append_left hj] at hu
        obtain ⟨a1, a2⟩ := hv j u hu
        exact ⟨hup _ _ _ _ _ (mono _ _ _ _ e5 a1) a2, a2⟩
      · rw [List.getElem?_append_right (by omega)] at hu
        have h0 : j - vs.length = 0 := by
          have := (List.getElem?_eq_some_iff.mp hu).1
          simp at this
          omega
        rw [h0] at hu
        have : u = v := by simpa using hu.symm
        subst this
        have ji : j = i := by omega
        subst ji
        have nv := hne _ _ _ l p5 ⟨_, e5 _ _ hl⟩
        exact ⟨hup _ _ _ _ _ p5 nv, nv⟩
  · have ei : i = kvs.length := by omega
    subst ei
    exact .inl ⟨⟨kvs, q, Nat.le_refl _⟩, hd l H2 vs hl0 e hl vl hv⟩
end
end L2
set_option maxRecDepth 100000
namespace L2
open PySem PySem.Spec PyProof.Rows
theorem range_mapG {α β : Type} {xs : List α} {d : α} {f : α → β} : (List.range xs.length).map (fun i => f (xs.getD i d)) = xs.map f := by
  apply List.ext_getElem?
  intro i
  rw [List.getElem?_map, List.getElem?_map]
  by_cases h : i < xs.length
  · rw [List.getElem?_range h, List.getElem?_eq_getElem h]
    simp only [Option.map_some, List.getD_eq_getElem?_getD, List.getElem?_eq_getElem h, Option.getD_some]
  · rw [List.getElem?_eq_none (by simpa using h), List.getElem?_eq_none (by omega)]
    rfl
section
variable {K : PySem.W.Frag} {js : List Nat} {te : TE} {σ : St} {F : Addr → Hp → Prop} {H : Hp}
theorem compV_list {a : Addr} {xs : List V} (g : Nat → V) (ha : H a = some (.lst xs)) (hz : xs.length ≤ 1000)
    (hs : ∀ (i : Nat) (x : V) H2, xs[i]? = some x → Same H H2 → te (some x :: caps σ js) H2 fun v H5 => v = g i ∧ Same H2 H5)
    (hd : ∀ l H', H l = none → Same H H' → H' l = some (.lst ((List.range xs.length).map g)) → F l H') : compRd 1 js (gName 0) tYes te σ F (Itl K a) H := by
  intro l hl0
  refine ⟨fun i m σ' H2 => m = xs.length - i ∧ i ≤ xs.length ∧ (∃ o, σ' = o :: caps σ js) ∧ Same H H2 ∧ H2 l = some (.lst ((List.range i).map g)), ⟨xs.length, by simp, Nat.zero_le _, ⟨none, rfl⟩, same_upd (Same.refl _) hl0, upd_same⟩, ?_⟩
  rintro i m σ' H2 ⟨rfl, hi, ⟨o', rfl⟩, e, hl⟩
  have q : SqL K H2 a xs := SqL.of (e _ _ ha)
  by_cases hlt : i < xs.length
  · refine .inr ⟨⟨xs, xs[i], q, by simp [hlt]⟩, fun x H3 y => ?_⟩
    obtain ⟨rfl, y⟩ := y
    refine ⟨fun H4 => False, fun v H5 => v = g i ∧ Same H3 H5, fun H4 z => z.elim, fun v H5 ⟨ev, e5⟩ => ?_, hs i x H3 (y xs q) e⟩
    subst ev
    refine ⟨_, e5 _ _ hl, by simp only [List.length_map, List.length_range]; exact Nat.lt_of_lt_of_le hlt (Nat.le_trans hz (by decide)), _, ?_, rfl, hlt, ⟨_, rfl⟩, same_new (e.trans e5) hl0, ?_⟩
    · omega
    · rw [upd_same, List.range_succ, List.map_append]; rfl
  · have ei : i = xs.length := by omega
    subst ei
    exact .inl ⟨⟨xs, q, Nat.le_refl _⟩, hd l H2 hl0 e hl⟩
theorem compV_range {lo : Int} {n : Nat} (g : Nat → V) (hz : n ≤ 1000)
    (hs : ∀ (i : Nat) H2, i < n → Same H H2 → te (some (.int (lo + i)) :: caps σ js) H2 fun v H5 => v = g i ∧ Same H2 H5)
    (hd : ∀ l H', H l = none → Same H H' → H' l = some (.lst ((List.range n).map g)) → F l H') : compRd 1 js (gName 0) tYes te σ F (Itr lo n) H := by
  intro l hl0
  refine ⟨fun i m σ' H2 => m = n - i ∧ i ≤ n ∧ (∃ o, σ' = o :: caps σ js) ∧ Same H H2 ∧ H2 l = some (.lst ((List.range i).map g)), ⟨n, by simp, Nat.zero_le _, ⟨none, rfl⟩, same_upd (Same.refl _) hl0, upd_same⟩, ?_⟩
  rintro i m σ' H2 ⟨rfl, hi, ⟨o', rfl⟩, e, hl⟩
  by_cases hlt : i < n
  · refine .inr ⟨hlt, fun x H3 y => ?_⟩
    obtain ⟨rfl, rfl⟩ := y
    refine ⟨fun H4 => False, fun v H5 => v = g i ∧ Same H3 H5, fun H4 z => z.elim, fun v H5 ⟨ev, e5⟩ => ?_, hs i H3 hlt e⟩
    subst ev
    refine ⟨_, e5 _ _ hl, by simp only [List.length_map, List.length_range]; exact Nat.lt_of_lt_of_le hlt (Nat.le_trans hz (by decide)), _, ?_, rfl, hlt, ⟨_, rfl⟩, same_new (e.trans e5) hl0, ?_⟩
    · omega
    · rw [upd_same, List.range_succ, List.map_append]; rfl
  · have ei : i = n := by omega
    subst ei
    exact .inl ⟨Nat.le_refl _, hd l H2 hl0 e hl⟩
theorem compV4_list {a : Addr} {xs : List V} (g : Nat → V) (ha : H a = some (.lst xs)) (hz : xs.length ≤ 1000)
    (hf : ∀ (i : Nat) (x : V), xs[i]? = some x → ∃ p x1 x2 x3 x4, x = .ref p ∧ H p = some (.tup [x1, x2, x3, x4]))
    (hs : ∀ (i : Nat) (p : Addr) (x1 x2 x3 x4 : V) H2, xs[i]? = some (.ref p) → H p = some (.tup [x1, x2, x3, x4]) → Same H H2 → te (some x1 :: some x2 :: some x3 :: some x4 :: caps σ js) H2 fun v H5 => v = g i ∧ Same H2 H5)
    (hd : ∀ l H', H l = none → Same H H' → H' l = some (.lst ((List.range xs.length).map g)) → F l H') : compRd 4 js (G4 K) tYes te σ F (Itl K a) H := by
  intro l hl0
  refine ⟨fun i m σ' H2 => m = xs.length - i ∧ i ≤ xs.length ∧ (∃ o1 o2 o3 o4, σ' = o1 :: o2 :: o3 :: o4 :: caps σ js) ∧ Same H H2 ∧ H2 l = some (.lst ((List.range i).map g)), ⟨xs.length, by simp, Nat.zero_le _, ⟨none, none, none, none, rfl⟩, same_upd (Same.refl _) hl0, upd_same⟩, ?_⟩
  rintro i m σ' H2 ⟨rfl, hi, ⟨o1, o2, o3, o4, rfl⟩, e, hl⟩
  have q : SqL K H2 a xs := SqL.of (e _ _ ha)
  by_cases hlt : i < xs.length
  · refine .inr ⟨⟨xs, xs[i], q, by simp [hlt]⟩, fun x H3 y => ?_⟩
    obtain ⟨rfl, y⟩ := y
    have ex := y xs q
    obtain ⟨p, x1, x2, x3, x4, rfl, hp⟩ := hf i x ex
    refine ⟨p, [x1, x2, x3, x4], rfl, SqT.of (e _ _ hp), rfl, x1, [x2, x3, x4], rfl, x2, [x3, x4], rfl, x3, [x4], rfl, x4, [], rfl, rfl, ?_⟩
    refine ⟨fun H4 => False, fun v H5 => v = g i ∧ Same H3 H5, fun H4 z => z.elim, fun v H5 ⟨ev, e5⟩ => ?_, hs i p x1 x2 x3 x4 H3 ex hp e⟩
    subst ev
    refine ⟨_, e5 _ _ hl, by simp only [List.length_map, List.length_range]; exact Nat.lt_of_lt_of_le hlt (Nat.le_trans hz (by decide)), _, ?_, rfl, hlt, ⟨_, _, _, _, rfl⟩, same_new (e.trans e5) hl0, ?_⟩
    · omega
    · rw [upd_same, List.range_succ, List.map_append]; rfl
  · have ei : i = xs.length := by omega
    subst ei
    exact .inl ⟨⟨xs, q, Nat.le_refl _⟩, hd l H2 hl0 e hl⟩
end
end L2
set_option maxRecDepth 100000
namespace L2
open PySem PySem.Spec PyProof.Rows
theorem entry_unchain : entryFor table "proto.unchain" = some Builtin.«proto.unchain» := entryFor_of_tree (by kernel_rfl)
section
variable {prog : Program} {w : World} {A : Around} {E : Value → Shared → Prop} {s : Shared}
def Lone (h : Heap) (ea : Addr) : Prop := ∃ oe ws, h.get? ea = some oe ∧ oe.data = .fields ws ∧ ws[2]? = some .none
theorem Lone.at {h h' : Heap} {ea : Addr} (x : Lone h ea) (k : ∀ o, h.get? ea = some o → h'.get? ea = some o) : Lone h' ea := let ⟨oe, ws, a, b, c⟩ := x; ⟨oe, ws, k _ a, b, c⟩
theorem raise_under {α : Type} {a ea : Addr} {oa : Obj} {vs : Array Value} {Q : α → Shared → Prop} (hh : A.handled = some (.ref ea)) (ne : ea ≠ a) (ha : s.heap.get? a = some oa) (hda : oa.data = .fields vs) (hz : 2 < vs.size) (l : Lone s.heap ea)
    (h : E (.ref a) { s with heap := s.heap.update a (Obj.mapFields (·.setIfInBounds 2 (.ref ea))) }) : wpAny (model prog w) A (raiseNew (.ref a) : Sem α) Q E s := by
  obtain ⟨oe, ws, he, hde, h2⟩ := l
  unfold raiseNew
  refine wpAny_bind (wpAny_handled ?_)
  rw [hh]
  show wpAny _ _ (if (Value.ref ea != Value.ref a) = true then (holding [Value.ref a] (runValue (.builtin "proto.unchain" ⟨[.ref a, .ref ea, .ref ea, .bool false], []⟩)) >>= fun _ => updateField a 2 (.ref ea) >>= fun _ => throw (Value.ref a)) else throw (Value.ref a)) _ _ s
  rw [if_pos (by simpa using ne)]
  refine wpAny_bind (wpAny_holding (wpAny_runValue (codeAny_builtin entry_unchain ?_)))
  unfold Builtin.«proto.unchain»
  show wpAny _ _ (field (.ref ea) 2 >>= _) _ _ s
  refine wpAny_bind (wpAny_field he hde h2 ?_)
  show wpAny _ _ (if (Value.none == Value.none) = true then _ else _) _ _ s
  rw [if_pos (by rfl)]
  refine wpAny_pure ?_
  show wpAny _ _ (updateField a 2 (.ref ea) >>= _) _ _ s
  refine wpAny_bind ?_
  show wpAny _ _ (setField (.ref a) 2 (.ref ea)) _ _ s
  exact wpAny_setField ha hda hz (wpAny_throw h)
end
end L2
set_option maxRecDepth 100000
namespace L2
open PySem PySem.Spec PyProof.Rows
structure RoomH (ea : Addr) (k : Nat) (A : Around) : Prop where
  hd : A.handled = some (.ref ea)
  dp : A.depth + 3 * k + 5 < recursionLimit
  un : A.units + 16 * k + 200 < cLine
theorem RoomH.mono {ea : Addr} {j k : Nat} {A : Around} (r : RoomH ea k A) (h : j ≤ k) : RoomH ea j A := ⟨r.hd, by have := r.dp; omega, by have := r.un; omega⟩
theorem RoomH.deeper {ea : Addr} {k : Nat} {A : Around} (r : RoomH ea (k + 1) A) (env : Env) : RoomH ea k (A.deeper env) :=
  ⟨r.hd, by have := r.dp; show A.depth + 1 + 3 * k + 5 < _; omega, by have := r.un; show A.units + 3 + 16 * k + 200 < _; omega⟩
theorem RoomH.of {ea : Addr} {k : Nat} {A : Around} (r : Room k A) : RoomH ea k (A.mark (some (.ref ea))) := ⟨rfl, r.dp, r.un⟩
theorem RoomH.depth {ea : Addr} {k : Nat} {A : Around} (r : RoomH ea k A) : A.depth < recursionLimit := by have := r.dp; omega
def cxOfH (CX : CXT) (P : Program) (w : World) (K : PySem.W.Frag) (mg : Str → Option Value) (base : Heap) (N : List Str) (qual : Str) (scope : Scope) (f : Addr) (cd : Value) (A : Around) (outer : List Env) (s : Shared) (H : Hp) (E : XK) : Cx := { cxOf CX P w K mg base N qual scope f cd A outer s H E with calm := false }
structure FnOkH (P : Program) (w : World) (K : PySem.W.Frag) (mg : Str → Option Value) (base : Heap) (CX : CXT) (k : Nat) (f : Addr) (fd : FuncData) (ps : List Str) (sp : Addr → Sp) : Prop where
  len : ∀ ea vs H Q E, sp ea vs H Q E → vs.length = ps.length
  run : ∀ (ea : Addr) (A : Around) (outer : List Env) (s : Shared) (H : Hp) (args : Args) (us : List Value) (vs : List V) (Q : VK) (E : XK), RoomH ea k A → Env0 P w K mg base A outer s H → BindsTo s fd args (ps.zip us) → Vals vs us → sp ea vs H Q E →
    codeAny (model P w) A (.call (.ref f) args) (CR CX outer P w H s Q E) s
theorem inv_startH {CX : CXT} {P : Program} {w : World} {K : PySem.W.Frag} {mg : Str → Option Value} {base : Heap} {N ps : List Str} {qual : Str} {scope : Scope} {f : Addr} {cd : Value} {A : Around} {outer : List Env} {s s1 : Shared} {H : Hp} {E : XK} {us : List Value} {vs : List V}
    (S : FnScope N ps scope) (e0 : Env0 P w K mg base A outer s H) (hl : vs.length = ps.length) (r : Vals vs us)
    (x : InCallC s s.heap.objs.size (bindL (envOfC qual scope s.heap.objs.size f cd).kindOf (ps.zip us) fun _ => none) (cellsFrom (s.heap.objs.size + 1) scope.names []) (bindC (envOfC qual scope s.heap.objs.size f cd).kindOf (ps.zip us) fun _ => none) s1) :
    Inv (cxOfH CX P w K mg base N qual scope f cd A outer s H E) [] (start N vs) H s1 := by
  have hpl : ps.length ≤ N.length := by have := congrArg List.length S.pre; rw [List.length_take] at this; omega
  obtain ⟨h1, tk, rfl, hk⟩ := x.done
  have noA : ∀ b : Addr, b ∉ (cxOfH CX P w K mg base N qual scope f cd A outer s H E).ex := fun b z => absurd (show b ∈ ([] : List Addr) from z) (by simp)
  refine ⟨⟨e0.mod, S.kind, rfl, rfl, Nat.le_refl _, fun y z c h1 h2 => ?_, fun y hy => ?_, fun y c _ h => ?_, (fun z => nomatch z), Around.frames_deeper e0.frames, .inr ⟨rfl, rfl⟩, fun b z => absurd z (noA b), e0.bs, e0.bsz, fun b _ _ => noA b, fun b z => absurd z (noA b), e0.funs, e0.frf⟩,
    rfl, e0.bare, Un.kept hk, ⟨_, x.toInCall.ns, fun i y v h1 h2 h3 => ?_⟩, fun y c h => ⟨_, x.cell y c h⟩, e0.hok.fresh (Nat.le_refl _), fun y c h => ?_, fun p hp => absurd (show p ∈ ([] : List (Addr × Obj)) from hp) (by simp), e0.hok.kept hk, ?_⟩
  · exact name_of_addr x.apart (PySem.mem_of_lookup h1) (PySem.mem_of_lookup h2)
  · have hy : scope.names.lookup y = some .cell ∨ scope.names.lookup y = some .free := hy
    rcases hy with hy | hy
    · exact cell_has hy
    · exact absurd rfl (S.nofree _ (PySem.mem_of_lookup hy))
  · exact Nat.le_of_lt (x.above y c (PySem.mem_of_lookup h))
  · have hi : i < vs.length := by
      unfold start at h2
      by_cases hi : i < vs.length
      · exact hi
      · rw [List.getElem?_append_right (by simpa using hi)] at h2
        rw [List.getElem?_replicate] at h2
        split at h2 <;> cases h2
    have ha : vs[i]? = some v := by
      unfold start at h2
      rw [List.getElem?_append_left (by simpa using hi), List.getElem?_map] at h2
      cases e : vs[i]? with
      | none => rw [e] at h2; cases h2
      | some a => rw [e] at h2; cases h2; rfl
    obtain ⟨u, hu, rv⟩ := r.get ha
    have hp : ps[i]? = some y := by
      rw [← S.pre, List.getElem?_take_of_lt (by omega)]; exact h1
    have ndP : ps.Nodup := by rw [← S.pre]; exact S.nd.sublist (List.take_sublist _ _)
    refine ⟨u, rv, ?_⟩
    rcases S.par y (List.mem_of_getElem? hp) with k | k
    · exact .inl ⟨k, bindL_get ndP hp hu k⟩
    · obtain ⟨c, e⟩ := cell_has (n := s.heap.objs.size + 1) k
      refine .inr ⟨.inl k, c, e, ?_⟩
      have q := x.cell y c e
      rw [bindC_get ndP hp hu (by show scope.names.lookup y ≠ _; rw [k]; decide)] at q
      exact q
  · exact e0.hok.fresh (Nat.le_of_lt (x.above y c (PySem.mem_of_lookup h)))
  · unfold start
    show _ = N.length
    rw [List.length_append, List.length_map, List.length_replicate]
    omega
theorem fn_ofH {CX : CXT} {P : Program} {w : World} {K : PySem.W.Frag} {mg : Str → Option Value} {base : Heap} {k : Nat} {f : Addr} {name qual : Str} {params : Arguments} {body : List Stmt} {scope : Scope} {dV kV doc pm cdv ct oc : Value} {an od : Option Addr}
    {osl : Array (Option Value)} {N ps : List Str} {sp : Addr → Sp} (lk : K.lookup f = some ⟨oc, od, .func (PySem.W.fnOf name qual params body scope dV kV doc pm an cdv ct), osl⟩) (hcd : PySem.W.codeIn K cdv qual = true) (S : FnScope N ps scope)
    (len : ∀ ea vs H Q E, sp ea vs H Q E → vs.length = ps.length)
    (hbody : ∀ (ea : Addr) (A : Around) (outer : List Env) (s : Shared) (H : Hp) (vs : List V) (Q : VK) (E : XK), RoomH ea k (A.deeper (envOfC qual scope s.heap.objs.size f cdv)) → sp ea vs H Q E →
      ∃ t, PSs (cxOfH CX P w K mg base N qual scope f cdv A outer s H E) body t ∧ t { nx := fun _ H' => Q .non H', rt := Q } (start N vs) H) :
    FnOkH P w K mg base CX (k + 1) f (PySem.W.fnOf name qual params body scope dV kV doc pm an cdv ct) ps sp := by
  refine ⟨len, fun ea A outer s H args us vs Q E hr e0 hb r hsp => ?_⟩
  have hl := len _ _ _ _ _ hsp
  have KX : K.In s.heap := e0.mod.kin.keeps fun b o e => (e0.bs b o e).1
  have lim : s.heap.NoLimit := e0.mod.nolimit.keeps fun b o e => (e0.bs b o e).1
  have hkind : ∀ y ∈ ps.zip us, scope.names.lookup y.1 = some .local ∨ (scope.names.lookup y.1 = some .cell ∧ ((cellsFrom (s.heap.objs.size + 1) scope.names []).lookup y.1).isSome = true) := fun ⟨n, v⟩ hy => by
    rcases S.par n (List.of_mem_zip hy).1 with q | q
    · exact .inl q
    · exact .inr ⟨q, PySem.W.cellsFrom_some _ _ _ (.inl q)⟩
  refine codeAny_call_function hr.depth (KX _ _ lk) rfl S.co S.gen rfl (PySem.W.codeRec_of KX hcd) (hb _ _ _ _ ?_)
  refine wpAny_newFunctionEnv_cells S.kind hkind fun env he s1 x => ?_
  subst he
  refine ⟨lim.keeps x.toInCall.keep, codeAny_func ?_⟩
  obtain ⟨t, ht, hq⟩ := hbody ea A outer s H vs Q E (hr.deeper _) hsp
  have I : Inv (cxOfH CX P w K mg base N qual scope f cdv A outer s H E) [] (start N vs) H s1 := inv_startH S e0 hl r x
  refine wpAny_mono (ht [] s1 (start N vs) H _ I hq) (fun fl s' hs => ?_) fun e s' hs => hs
  have fin : ∀ {σ' : St} {H' : Hp} {v : V} {u : Value}, Inv (cxOfH CX P w K mg base N qual scope f cdv A outer s H E) [] σ' H' s' → RelV v u → Q v H' → CE outer P w H s Q u s' :=
    fun {σ' H' v u} J rv q => ⟨v, H', J.os, J.bare, J.base, J.hok, rv, q⟩
  cases fl with
  | ret u =>
    obtain ⟨v, σ', H', J, rv, q⟩ := hs
    exact fin J rv q
  | next =>
    obtain ⟨σ', H', J, q⟩ := hs
    exact fin (v := V.non) (u := Value.none) J rfl q
  | brk =>
    obtain ⟨_, _, _, q⟩ := hs
    exact False.elim q
  | cont =>
    obtain ⟨_, _, _, q⟩ := hs
    exact False.elim q
end L2
set_option maxRecDepth 100000
namespace L2
open PySem PySem.Spec PyProof.Rows
section
variable {P : Program} {w : World} {K : PySem.W.Frag} {mg : Str → Option Value} {base : Heap} {N : List Str} {qual : Str} {f : Addr}
theorem Fun.okH {x : Str} {st : Stmt} {fd : FuncData} {ps : List Str} {k : Nat} {sp : Addr → Sp} (F : Fun K x qual st f fd) (S : FnScope N ps (defScope st)) (len : ∀ ea vs H Q E, sp ea vs H Q E → vs.length = ps.length)
    (hbody : ∀ (ea : Addr) (cdv : Value) (A : Around) (outer : List Env) (s : Shared) (H : Hp) (vs : List V) (Q : VK) (E : XK), RoomH ea k (A.deeper (envOfC qual (defScope st) s.heap.objs.size f cdv)) → sp ea vs H Q E →
      ∃ t, PSs (cxOfH CX0 P w K mg base N qual (defScope st) f cdv A outer s H E).nox (defBody st) t ∧ t { nx := fun _ H' => Q .non H', rt := Q } (start N vs) H) : FnOkH P w K mg base CX0 (k + 1) f fd ps sp := by
  obtain ⟨oc, od, kV, doc, pm, an, cdv, ct, osl, rfl, lk, hcd⟩ := F.ex
  refine fn_ofH lk hcd S len fun ea A outer s H vs Q E hr hsp => ?_
  obtain ⟨t, h, q⟩ := hbody ea cdv A outer s H vs Q E hr hsp
  exact ⟨t, h.nox, q⟩
end
section
variable {X : Cx} {k : Nat} {ps : List Str} {sp : Addr → Sp} {x : Str} {p pos : Pos} {e : Expr} {es : List Expr} {t : TA} {f ea : Addr} {fd : FuncData}
end
section
variable {X : Cx} {tg : Expr}
end
end L2
set_option maxRecDepth 100000
namespace L2
open PySem PySem.Spec PyProof.Rows
section
variable {X : Cx} {tg : Expr}
end
section
variable {nT : Nat} {js : List Nat} {g : TG} {tt : TT} {te : TE} {σ : St} {F : Addr → Hp → Prop} {H : Hp}
end
end L2
set_option maxRecDepth 100000
namespace L2
open PySem PySem.Spec PyProof.Rows
section
variable {prog : Program} {w : World} {A : Around} {E : Value → Shared → Prop} {s : Shared}
end
end L2
set_option maxRecDepth 100000
namespace L2
open PySem PySem.Spec PyProof.Rows
section
variable {js : List Nat} {tt : TT} {te : TE} {σ : St} {F : Addr → Hp → Prop} {H : Hp}
end
end L2
set_option maxRecDepth 100000
namespace L2
open PySem PySem.Spec PyProof.Rows
end L2
set_option maxRecDepth 100000
namespace L2
open PySem PySem.Spec PySem.Calls PySem.W PyProof.Rows
def DictC (h : Heap) (e : Addr) (od : Option Addr) : Prop := ∃ oe vs, h.get? e = some oe ∧ oe.data = .fields vs ∧ oe.dict = od
section
variable {M : Model} {A : Around} {E : Value → Shared → Prop} {s : Shared} {base : Heap} {env : Env} {outer : List Env} {L e : Addr} {oe : Obj} {vs : Array Value}
theorem noteF_dict (hfr : A.frames = some (env :: outer)) (hl : s.heap.FunFrames base (env :: outer)) (hf : env.frame = some L) (he : s.heap.get? e = some oe) (hd : oe.data = .fields vs) (h1 : vs[1]? = some .none) :
    wpAny M A (noteFrame (.ref e) env) (fun _ s' => DictC s'.heap e oe.dict) E s := by
  unfold noteFrame
  simp only [hf]
  refine wpAny_bind (wpAny_field he hd h1 ?_)
  rw [if_neg (by decide)]
  have out : e ∉ (env :: outer).filterMap (·.frame) := fun hm => by
    obtain ⟨_, o, ho, nf⟩ := hl.mem hm
    rw [he] at ho
    cases ho
    exact nf vs hd
  refine wpAny_bind (wpAny_frameOf_fun hfr hl hf fun h1' k1 => wpAny_bind (wpAny_entryPlaceOf fun pl hpl => ?_))
  have he1 : h1'.get? e = some oe := (k1.2.1 e out).trans he
  unfold EntryCells.newEntry newFields
  refine wpAny_bind (wpAny_newObj_type ?_ (hpl.sizeOk5 _ _ _ _ _))
  refine wpAny_setField (Heap.get?_push_of_some _ he1) hd (Array.getElem?_eq_some_iff.mp h1).1 ?_
  have hd2 := Obj.data_mapFields hd (·.setIfInBounds 1 (Value.ref h1'.objs.size))
  exact ⟨_, _, Heap.get?_update_self _ (Heap.get?_push_of_some _ he1) (Obj.isFreed_of_fields hd2), hd2, dict_fields _ _⟩
theorem noteF {a0 : Value} {Q : Unit → Shared → Prop} (hfr : A.frames = some (env :: outer)) (hl : s.heap.FunFrames base (env :: outer)) (hf : env.frame = some L) (he : s.heap.get? e = some oe) (hkb : base.StaysIn s.heap) (hen : base.get? e = none) (hd : oe.data = .fields vs) (h1 : vs[1]? = some .none) (h0 : vs[0]? = some a0)
    (h : ∀ h', Heap.NotedW base (env :: outer) e oe.cls a0 (rawInt L) s.heap h' → Q () { s with heap := h' }) : wpAny M A (noteFrame (.ref e) env) Q E s := by
  unfold noteFrame
  simp only [hf]
  refine wpAny_bind (wpAny_field he hd h1 ?_)
  rw [if_neg (by decide)]
  exact wpAny_entryW hfr hl hf he hkb hen hd (Array.getElem?_eq_some_iff.mp h1).1 h0 h
theorem flightC_dict {cls a0 fl : Value} {od : Option Addr} (ht : s.heap.TracedAtW base e cls a0 fl) (ho : DictC s.heap e od) : wpAny M A (setFlight (.ref e) none) (fun _ s' => DictC s'.heap e od) E s := by
  obtain ⟨oe, vs, T, oT, ts, he, _, hd, h1, hnT, ne, hT, hdT, h3⟩ := ht
  obtain ⟨oe2, vs2, he2, hd2', ho⟩ := ho
  rw [he] at he2
  cases he2
  unfold setFlight
  refine wpAny_bind (wpAny_field he hd h1 ?_)
  rw [if_pos (by simp)]
  refine wpAny_setField hT hdT (Array.getElem?_eq_some_iff.mp h3).1 ⟨oe, vs, ?_, hd, ho⟩
  rw [Heap.get?_update_other _ _ ne]
  exact he
theorem passOn_held {α : Type} {cls a0 : Value} {what : String} {Q : α → Shared → Prop} (hf : env.frame = some L) (ht : s.heap.TracedAtW base e cls a0 (rawInt L)) (h : E (.ref e) s) : wpAny M A (PySem.passOn what (.ref e) env : Sem α) Q E s := by
  obtain ⟨oe, vs, T, oT, ts, he, _, hd, h1, hnT, ne, hT, hdT, h3⟩ := ht
  unfold PySem.passOn
  refine wpAny_bind (wpAny_field he hd h1 ?_)
  rw [if_neg (show ¬ ((Value.ref T == Value.none) = true) from by simp)]
  have fin : wpAny M A (setFlight (.ref e) env.frame >>= fun _ => (throw (Value.ref e) : Sem α)) Q E s := by
    refine wpAny_bind ?_
    unfold setFlight
    refine wpAny_bind (wpAny_field he hd h1 ?_)
    rw [if_pos (show (Value.ref T != Value.none) = true from by simp), hf]
    refine wpAny_setField hT hdT (Array.getElem?_eq_some_iff.mp h3).1 (wpAny_throw ?_)
    show E (.ref e) { s with heap := s.heap.update T (Obj.mapFields (·.setIfInBounds 3 (rawInt L))) }
    rw [Heap.update_setField_same s.heap T oT ts 3 (rawInt L) hT hdT h3]
    exact h
  first
    | exact fin
    | exact wpAny_bind (wpAny_pure fin)
end
def CXC (P : Program) (w : World) : CXT := fun outer H s E e s' => ∃ (ea : Addr) (cls a0 : Value) (B : Heap) (H' : Hp) (od : Option Addr), DictC s'.heap ea od ∧ e = .ref ea ∧ s'.os = s.os ∧ AllBare s'.gens ∧ Un (frs outer) [] H H' s.heap s'.heap ∧ HOk P w H' s'.heap ∧ H' ea = none ∧ s.heap.get? ea = none ∧
  Heap.FlyingW B outer ea cls a0 s'.heap ∧ (∀ b o, s'.heap.get? b = some o → b ∉ frs outer → B.get? b = none → s.heap.get? b = none ∧ H' b = none) ∧ E cls od H'
def ThrC (X : Cx) (W : St → XK) : Prop := ∀ (pins : List (Addr × Obj)) (σ : St) (H : Hp) (s : Shared) (ea : Addr) (cls a0 : Value) (B : Heap) (od : Option Addr), Inv X pins σ H s → Heap.HeldW B (X.env :: X.outer) ea cls a0 X.env.locals s.heap →
  (∀ b o, s.heap.get? b = some o → b ∉ frs X.stack → B.get? b = none → X.s₀.heap.get? b = none ∧ H b = none) → DictC s.heap ea od → H ea = none → X.s₀.heap.get? ea = none → W σ cls od H → X.xe (.ref ea) s
section
variable {P : Program} {w : World} {K : PySem.W.Frag} {mg : Str → Option Value} {base : Heap} {N : List Str} {qual : Str} {scope : Scope} {f : Addr} {cd : Value} {A : Around} {outer : List Env} {s : Shared} {H : Hp} {E : XK}
theorem held_def : ThrC (cxOf (CXC P w) P w K mg base N qual scope f cd A outer s H E) (fun _ => E) := fun pins σ Hc sc ea cls a0 B od I hh old di hea hs0 hE => by
  have O : Own (cxOf (CXC P w) P w K mg base N qual scope f cd A outer s H E) := own_def
  show wpAny _ _ (leaving _ (.ref ea)) _ _ sc
  unfold leaving
  refine wpAny_bind (wpAny_noteFrame_againW O.frm hh.2.2.2 ?_)
  refine wpAny_mono (any_both (E' := fun _ _ => False) (wpAny_landsW (E := fun _ _ => False) (Q := fun _ s'' => s''.os = s.os ∧ AllBare s''.gens ∧ Un (frs outer) [] H Hc s.heap s''.heap ∧ HOk P w Hc s''.heap ∧
      Heap.FlyingW B outer ea cls a0 s''.heap ∧ (∀ b o, s''.heap.get? b = some o → b ∉ frs outer → B.get? b = none → s.heap.get? b = none ∧ Hc b = none)) hh fun h' fl up => ?_) (flightC_dict hh.2.2.2 di)) (fun _ s'' z => ?_) (fun _ _ z => z.1.elim)
  · obtain ⟨u, hok, old2⟩ := un_leave O I hh.1 fl.1 up old
    obtain ⟨k1, k2, ⟨_, _, k3⟩, k4⟩ := fl
    exact ⟨I.os, I.bare, u, hok, ⟨k1, k2, k3, k4⟩, old2⟩
  · obtain ⟨⟨z1, z2, z3, z4, z5, z6⟩, hd⟩ := z
    exact ⟨ea, cls, a0, B, Hc, od, hd, rfl, z1, z2, z3, z4, hea, hs0, z5, z6, hE⟩
end
end L2
set_option maxRecDepth 100000
namespace L2
open PySem PySem.Spec PySem.Calls PySem.W PyProof.Rows
section
variable {prog : Program} {w : World} {A : Around} {E : Value → Shared → Prop} {s : Shared} {env : Env}
theorem isType_obj {a : Addr} {o : Obj} {vs : Array Value} {Q : Bool → Shared → Prop} (ha : s.heap.get? a = some o) (hd : o.data = .fields vs) (h : Q false s) : wpAny (model prog w) A (PySem.isType (.ref a)) Q E s := by
  show wpAny _ _ (loadHead a >>= fun o => pure (match o.data with | .cls _ => true | _ => false)) _ _ s
  refine wpAny_bind (wpAny_loadPart ha ?_)
  rw [hd]
  exact wpAny_pure h
theorem excFrom {a D : Addr} {o : Obj} {vs : Array Value} {msg : String} {Q : Value → Shared → Prop} (ha : s.heap.get? a = some o) (hd : o.data = .fields vs) (hc : o.cls = .ref D) (hi : Looks (model prog w) s.heap (isSubtype (.ref D) (.type "BaseException")) true) (h : Q (.ref a) s) : wpAny (model prog w) A (excFromValue (.ref a) msg) Q E s := by
  unfold excFromValue isExcClass
  refine wpAny_bind (wpAny_bind (isType_obj ha hd ?_))
  rw [if_neg (by decide)]
  refine wpAny_pure ?_
  rw [if_neg (by decide)]
  unfold isInstance
  have ht : Looks (model prog w) s.heap (typeOf (.ref a)) (.ref D) := hc ▸ (Looks.ld ha).andThen .now
  refine wpAny_bind (wpAny_bind (ht.here ?_))
  refine hi.here ?_
  rw [if_pos rfl]
  exact wpAny_pure h
variable {nm q : Str} {C N : Addr} {bs bm : List Value} {hdct : Bool} {sn : List Str} {sub : List Value} {ab : Bool} {col : Option Bool} {dd : Option Addr} {k0 k1 k2 k3 k5 : Option Value} {newId : String}
theorem raiseStmt_from {K : Frag} {D ea : Addr} {x c : Sem Value} {Q : Flow → Shared → Prop} (hbase : bm.contains (.type "BaseException") = true) (hh : A.handled = some (.ref ea))
    (h : wpAny (model prog w) A x (fun v s₁ => ∃ e, v = .ref e ∧ wpAny (model prog w) A c (fun cv s₂ => cv = .ref ea ∧ ∃ oe vs oa ws, s₂.heap.get? C = some (excClassObj nm q C N bs bm hdct sn sub ab col dd k0 k1 k2 k3 k5 newId) ∧ s₂.heap.get? e = some oe ∧ oe.cls = .ref C ∧ oe.data = .fields vs ∧ vs[1]? = some .none ∧ 4 < vs.size ∧ ea ≠ e ∧
      s₂.heap.get? ea = some oa ∧ oa.cls = .ref D ∧ oa.data = .fields ws ∧ ws[2]? = some .none ∧ K.In s₂.heap ∧ mroIn K D (.type "BaseException") = some true ∧
      ∀ h' oe' vs', h'.get? e = some oe' → oe'.cls = oe.cls → oe'.dict = oe.dict → oe'.data = .fields vs' → vs'[0]? = vs[0]? → vs'[1]? = some .none → (∀ b, b ≠ e → h'.get? b = s₂.heap.get? b) → E (.ref e) { s₂ with heap := h' }) E s₁) E s) :
    wpAny (model prog w) A (raiseStmt env (some x) (some c)) Q E s := by
  have hcB : (Value.ref C :: bm).contains (.type "BaseException") = true := by rw [List.contains_cons, hbase, Bool.or_true]
  unfold raiseStmt
  refine wpAny_bind (wpAny_mono h (fun v s₁ h₁ => ?_) fun _ _ x => x)
  obtain ⟨e, rfl, h₁⟩ := h₁
  refine wpAny_bind (wpAny_holding (wpAny_mono h₁ (fun cv s₂ h₂ => wpAny_bind (wpAny_pure ?_)) fun _ _ x => x))
  obtain ⟨rfl, oe, vs, oa, ws, hC, he, hc, hd, h1, h4, ne, hea, hac, had, ha2, X, hm, hE⟩ := h₂
  have lC : Looks (model prog w) s₂.heap (isSubtype (.ref C) (.type "BaseException")) true := fun A' Q' E' s' k' q' => wpAny_isSubtype_exc (k' _ _ hC) (by rw [hcB]; exact q')
  refine wpAny_bind (wpAny_holding (excFrom he hd hc lC ?_))
  show wpAny _ _ (if (Value.ref ea == Value.none) = true then _ else _) _ _ s₂
  rw [if_neg (show ¬ ((Value.ref ea == Value.none) = true) from by simp)]
  refine wpAny_bind (wpAny_holding (excFrom hea had hac (looks_mroIn X hm) ?_))
  refine wpAny_bind (wpAny_setField he hd (by omega) ?_)
  have hd3 := Obj.data_mapFields hd (·.setIfInBounds 3 (Value.ref ea))
  have he3 := Heap.get?_update_self (Obj.mapFields (·.setIfInBounds 3 (Value.ref ea))) he (Obj.isFreed_of_fields hd3)
  refine wpAny_bind (wpAny_setField he3 hd3 (by simpa using h4) ?_)
  have hd4 := Obj.data_mapFields hd3 (·.setIfInBounds 4 (Value.bool true))
  have he4 := Heap.get?_update_self (Obj.mapFields (·.setIfInBounds 4 (Value.bool true))) he3 (Obj.isFreed_of_fields hd4)
  refine wpAny_bind (isType_obj he4 hd4 ?_)
  rw [if_neg (by decide)]
  have oth : ∀ b, b ≠ e → ((s₂.heap.update e (Obj.mapFields (·.setIfInBounds 3 (Value.ref ea)))).update e (Obj.mapFields (·.setIfInBounds 4 (Value.bool true)))).get? b = s₂.heap.get? b := fun b hb => by rw [Heap.get?_update_other _ _ (Ne.symm hb), Heap.get?_update_other _ _ (Ne.symm hb)]
  have nC : C ≠ e := fun z => by
    rw [z, he] at hC
    have := congrArg (fun o => o.map Obj.cls) hC
    simp only [Option.map_some] at this
    rw [hc] at this
    cases this
  have hC4 := (oth C nC).trans hC
  have hcl4 : (Obj.mapFields (·.setIfInBounds 4 (Value.bool true)) (Obj.mapFields (·.setIfInBounds 3 (Value.ref ea)) oe)).cls = .ref C := by rw [Obj.cls_mapFields, Obj.cls_mapFields, hc]
  unfold raisedInstance
  have l1 : Looks (model prog w) ((s₂.heap.update e (Obj.mapFields (·.setIfInBounds 3 (Value.ref ea)))).update e (Obj.mapFields (·.setIfInBounds 4 (Value.bool true)))) (typeOf (.ref e)) (.ref C) := hcl4 ▸ (Looks.ld he4).andThen .now
  have l2 : Looks (model prog w) ((s₂.heap.update e (Obj.mapFields (·.setIfInBounds 3 (Value.ref ea)))).update e (Obj.mapFields (·.setIfInBounds 4 (Value.bool true)))) (typeOf (.ref C)) (.type "type") := (Looks.ld hC4).andThen .now
  refine wpAny_bind (wpAny_bind (l1.here ?_))
  refine wpAny_bind (l2.here ?_)
  rw [if_pos (show (Value.type "type" == Value.type "type") = true from by decide)]
  refine wpAny_pure ?_
  have h14 : ((vs.setIfInBounds 3 (Value.ref ea)).setIfInBounds 4 (Value.bool true))[1]? = some .none := by simpa [Array.getElem?_setIfInBounds] using h1
  refine wpAny_bind ?_
  unfold setFlight
  refine wpAny_bind (wpAny_field he4 hd4 h14 ?_)
  rw [if_neg (by decide)]
  refine wpAny_pure ?_
  refine raise_under hh ne he4 hd4 (by simp; omega) ⟨oa, ws, (oth ea ne).trans hea, had, ha2⟩ ?_
  have hd2 := Obj.data_mapFields hd4 (·.setIfInBounds 2 (Value.ref ea))
  refine hE _ _ _ (Heap.get?_update_self _ he4 (Obj.isFreed_of_fields hd2)) ?_ ?_ hd2 ?_ ?_ fun b hb => ?_
  · rw [Obj.cls_mapFields, hcl4, hc]
  · rw [dict_fields, dict_fields, dict_fields]
  · simp [Array.getElem?_setIfInBounds]
  · simpa [Array.getElem?_setIfInBounds] using h1
  · rw [Heap.get?_update_other _ _ (Ne.symm hb)]
    exact oth b hb
end
end L2
set_option maxRecDepth 100000
namespace L2
open PySem PySem.Spec PySem.Calls PySem.W PyProof.Rows
section
variable {X : Cx} {pins : List (Addr × Obj)} {σ : St} {H : Hp} {s : Shared}
theorem Inv.noted {na : Addr} {h4 : Heap} {on : Obj} {vn : Array Value} (O : Own X) (I : Inv X pins σ H s) (hn : s.heap.get? na = some on) (hnd : on.data = .fields vn) (k1 : (hideAll s.heap (na :: frs X.stack)).StaysIn h4) (up : s.heap.UpToSlots h4) (hs0 : X.s₀.heap.get? na = none) (hH : H na = none) (hp : ∀ p ∈ X.pn ++ pins, p.1 ≠ na) :
    Inv X pins σ H { s with heap := h4 } := by
  have hB1 : (hideAll s.heap (na :: frs X.stack)).StaysIn s.heap := fun b o q => of_hideAll _ q
  obtain ⟨u, hok, _⟩ := un_leave O I hB1 k1 up (fun b o e hb hBb => by
    by_cases hbe : b = na
    · rw [hbe]; exact ⟨hs0, hH⟩
    · rw [hideAll_get _ e (fun z => by rcases List.mem_cons.mp z with z | z; exact hbe z; exact hb z)] at hBb; cases hBb)
  have keep : ∀ b o, b ≠ na → b ∉ frs X.stack → s.heap.get? b = some o → h4.get? b = some o := fun b o h1 h2 h3 => k1 b o (hideAll_get _ h3 (fun z => by rcases List.mem_cons.mp z with z | z; exact h1 z; exact h2 z))
  have cellAt : ∀ c v, s.heap.IsCell c v → h4.IsCell c v := fun c v ⟨o, ho, hd⟩ => by
    obtain ⟨sl, e⟩ := up c o ho (fun vs q => by rw [hd] at q; cases q)
    exact ⟨_, e, hd⟩
  obtain ⟨m, hm, hl⟩ := I.loc
  refine ⟨I.ok, I.os, I.bare, by rw [O.exs]; exact u, ⟨m, up.ns hm, fun j y v e1 e2 e3 => ?_⟩, fun x c e => ?_, I.free, I.freeC, fun p hp' => ?_, hok, I.len⟩
  · obtain ⟨u', r', q⟩ := hl j y v e1 e2 e3
    refine ⟨u', r', ?_⟩
    rcases q with ⟨k, e⟩ | ⟨k, c, e, z⟩
    · exact .inl ⟨k, e⟩
    · exact .inr ⟨k, c, e, cellAt _ _ z⟩
  · obtain ⟨v, z⟩ := I.cell x c e
    exact ⟨v, cellAt _ _ z⟩
  · obtain ⟨e, n, ne, nf, d⟩ := I.pin p hp'
    refine ⟨keep p.1 p.2 (hp p hp') (fun z => ?_) e, n, ne, nf, d⟩
    rw [O.frs] at z
    rcases List.mem_cons.mp z with z | z
    · exact ne z
    · exact nf z
end
theorem frames_but {base h h' : Heap} {a : Addr} {o' : Obj} (hs : Heap.SameBut a h h') (ha : h'.get? a = some o') (hd : ∀ vs, o'.data ≠ .fields vs) : ∀ {l : List Env}, h.FunFrames base l → h'.FunFrames base l
  | [], _ => trivial
  | env :: _, ⟨hk, ⟨L, o, hf, hb, ho, hod⟩, hr⟩ => by
    refine ⟨hk, ?_, frames_but hs ha hd hr⟩
    by_cases z : L = a
    · subst z
      exact ⟨L, o', hf, hb, ha, hd⟩
    · exact ⟨L, o, hf, hb, (hs.2 L z).trans ho, hod⟩
theorem RoomH.make {ea : Addr} {k : Nat} {A : Around} (r : RoomH ea (k + 1) A) (C : Addr) (us : List Value) (kw : List (Str × Value)) : RoomH ea k (A.under (.builtin "type.__call__" ⟨.ref C :: us, kw⟩)) :=
  ⟨r.hd, by have := r.dp; rw [make_depth]; omega, by have := r.un; rw [make_units]; omega⟩
def DiH (P : Program) (w : World) (K : Frag) (mg : Str → Option Value) (base : Heap) (k : Nat) (x : Str) (C : Addr) (ps : List Str) (sp : Addr → Sp) : Prop :=
  ∃ f fd, mg x = some (.ref C) ∧ ExcMk K C f ∧ Binds K fd ps [] ∧ FnOkH P w K mg base CX0 k f fd ps sp
section
variable {X : Cx} {pins : List (Addr × Obj)} {σ : St} {H : Hp} {s : Shared}
theorem suite_raised {M : Model} {A' : Around} {n : Str} {i : Nat} {hpos : Pos} {N : Value → Shared → Prop} {na : Addr} {on : Obj} {vn : Array Value} {a0 : Value} (O : Own X) (hfr : A'.frames = some (X.env :: X.outer)) (I : Inv X pins σ H s) (hN : X.N.Nodup) (hi : X.N[i]? = some n) (hk : X.env.scope.names.lookup n = some .local)
    (hn : s.heap.get? na = some on) (hnd : on.data = .fields vn) (h0 : vn[0]? = some a0) (h1 : vn[1]? = some .none) (hs0 : X.s₀.heap.get? na = none) (hH : H na = none) (hp : ∀ p ∈ X.pn ++ pins, p.1 ≠ na)
    (h : ∀ s' B, Inv X pins (σ.set i none) H s' → Heap.HeldW B (X.env :: X.outer) na on.cls a0 X.env.locals s'.heap → (∀ b o, s'.heap.get? b = some o → b ∉ frs X.stack → B.get? b = none → X.s₀.heap.get? b = none ∧ H b = none) → DictC s'.heap na on.dict → N (.ref na) s') :
    AsSuiteRaised M A' X.env n hpos N (.ref na) s := by
  have hin : ∀ env ∈ X.stack, ∀ b, env.frame = some b → b ∈ na :: frs X.stack := fun env he b hb => List.mem_cons_of_mem _ (List.mem_filterMap.mpr ⟨env, he, hb⟩)
  have hl : s.heap.FunFrames (hideAll s.heap (na :: frs X.stack)) X.stack := funFrames_hide I.stack hin
  have hB1 : (hideAll s.heap (na :: frs X.stack)).StaysIn s.heap := fun b o q => of_hideAll _ q
  have hB : (hideAll s.heap (na :: frs X.stack)).get? na = none := hideAll_none _ (List.mem_cons_self ..)
  have hl2 : s.heap.FunFrames (hideAll s.heap (na :: frs X.stack)) (X.env :: X.outer) := by rw [O.stk] at hl ⊢; exact hl
  have hLB : (hideAll s.heap (na :: frs X.stack)).get? X.env.locals = none := hideAll_none _ (List.mem_cons_of_mem _ (by rw [O.frs]; exact List.mem_cons_self ..))
  refine wpAny_mono (any_both (E' := fun _ _ => False) (noteF (E := fun _ _ => False) (Q := fun _ s' => ∃ h4, s' = { s with heap := h4 } ∧ Heap.NotedW (hideAll s.heap (na :: frs X.stack)) (X.env :: X.outer) na on.cls a0 (rawInt X.env.locals) s.heap h4) hfr hl2 O.frm hn hB1 hB hnd h1 h0 fun h4 q => ⟨h4, rfl, q⟩) (noteF_dict hfr hl2 O.frm hn hnd h1)) (fun _ s4 z => ?_) (fun _ _ z => z.1.elim)
  obtain ⟨⟨h4, rfl, k1, k2, k3, k4⟩, di⟩ := z
  have I4 : Inv X pins σ H { s with heap := h4 } := I.noted O hn hnd k1 k4 hs0 hH hp
  obtain ⟨m, hm, _⟩ := id I4.loc
  have hcls : (X.env.scope.kind == .class || (X.env.scope.kind == .module && X.env.locals != X.env.globals)) = false := by rw [I.ok.kind]; rfl
  refine wpAny_mono (any_both (E' := fun _ _ => False) (name_gone (E := fun _ _ => False) (Q := fun _ s' => Inv X pins (σ.set i none) H s') I4 hN hi hk fun s' I' => I') (wpAny_nameGoes_keeps (E := fun _ _ => False) (Q := fun _ s' => ∃ h5 m', s'.heap = h5 ∧ h5.Ns X.env.locals m' ∧ Heap.SameBut X.env.locals h4 h5) hk hm hcls fun h5 v hn5 hs5 => ⟨h5, _, rfl, hn5, hs5⟩)) (fun _ s5 z => ?_) (fun _ _ z => z.1.elim)
  obtain ⟨I5, h5, m', e5, hn5, hs5⟩ := z
  subst e5
  obtain ⟨oL, es, ep, hoL, hdL, _⟩ := id hn5
  obtain ⟨oL4, es4, ep4, hoL4, hdL4, _⟩ := id hm
  have nfL : ∀ vs, oL.data ≠ .fields vs := fun vs q => by rw [hdL] at q; cases q
  obtain ⟨oe, vs, T, oT, ts, he, hc, hd, t1, hnT, ne, hT, hdT, h3⟩ := id k3
  have neL : na ≠ X.env.locals := fun z => by rw [z] at he; rw [he] at hoL4; cases hoL4; rw [hdL4] at hd; cases hd
  have neT : T ≠ X.env.locals := fun z => by rw [z] at hT; rw [hT] at hoL4; cases hoL4; rw [hdL4] at hdT; cases hdT
  have held : Heap.HeldW (hideAll s.heap (na :: frs X.stack)) (X.env :: X.outer) na on.cls a0 X.env.locals s5.heap := by
    refine ⟨fun b o q => ?_, hB, frames_but hs5 hoL nfL k2, oe, vs, T, oT, ts, (hs5.2 na neL).trans he, hc, hd, t1, hnT, ne, (hs5.2 T neT).trans hT, hdT, h3⟩
    have : b ≠ X.env.locals := fun z => by rw [z, hLB] at q; cases q
    exact (hs5.2 b this).trans (k1 b o q)
  refine passOn_held O.frm held.2.2.2 (h s5 _ I5 held (fun b o hb hnf hBb => ?_) ?_)
  · by_cases hbe : b = na
    · rw [hbe]; exact ⟨hs0, hH⟩
    · have hsb : s.heap.get? b = none := by
        cases q : s.heap.get? b with
        | none => rfl
        | some o' => rw [hideAll_get _ q (fun z => by rcases List.mem_cons.mp z with z | z; exact hbe z; exact hnf z)] at hBb; cases hBb
      constructor
      · cases q : X.s₀.heap.get? b with
        | none => rfl
        | some o' =>
          obtain ⟨o2, e2⟩ := I.base.there b o' q (by rw [O.exs]; simp)
          rw [hsb] at e2; cases e2
      · cases q : H b with
        | none => rfl
        | some v =>
          obtain ⟨o2, e2⟩ := objOk_there (I.hok b v q)
          rw [hsb] at e2; cases e2
  · obtain ⟨oe2, vs2, a1, a2, a3⟩ := di
    exact ⟨oe2, vs2, (hs5.2 na neL).trans a1, a2, a3⟩
end
end L2
set_option maxRecDepth 100000
namespace L2
open PySem PySem.Spec PySem.Calls PyProof.Rows
def tTryF (K : PySem.W.Frag) (C : Addr) (i : Nat) (tb : (St → XK) → TS) (W : St → XK) (CD : Addr) (sp : Addr → Sp) (t : TA) : TS := fun D σ H =>
  tb (fun σ' cls od H' => PySem.W.exmOne K cls (.ref C) = some true ∧ (∃ Dc, cls = .ref Dc ∧ PySem.W.mroIn K Dc (.type "BaseException") = some true) ∧ ∀ ea, H' ea = none →
    t (σ'.set i (some (.ref ea))) (upd H' ea (excV ea cls od)) fun vs H1 => vs.length ≤ sizeLine ∧ H1 ea = some (excV ea cls od) ∧ ∀ na, H1 na = none →
      sp ea (.ref na :: vs) (upd H1 na (excN na CD)) (fun v H2 => v = .non ∧ ∃ dx, H2 na = some (excM na CD dx) ∧ H2 ea = some (excV ea cls od) ∧ W ((σ'.set i (some (.ref ea))).set i none) (.ref CD) (some dx) (hide na H2)) E0) D σ H
theorem ps_tryF {X : Cx} {body : List Stmt} {x n xD : Str} {np npD np2 hpos cpos rpos pos : Pos} {i k : Nat} {C CD : Addr} {tb : (St → XK) → TS} {W : St → XK} {ps : List Str} {sp : Addr → Sp} {e : Expr} {es : List Expr} {t : TA} (O : Own X) (hN : X.N.Nodup) (hi : X.N[i]? = some n) (hk : X.env.scope.names.lookup n = some .local)
    (hg : Gl X x) (hm : X.mg x = some (.ref C)) (hw : ThrC X W) (hpass : ∀ ea, PassesOwnAt (model X.prog X.w) (X.A.mark (some (.ref ea))) X.A X.env X.xe) (hgD : Gl X xD) (DD : DiH X.prog X.w X.K X.mg X.base k xD CD ps sp) (hr : Room (k + 1) X.A)
    (hb : ∀ pn W, PSs (X.tryX pn W) body (tb W)) (ha : ∀ ea pn, PA (X.catchX ea pn) (e :: es) t) (hdb : (x == ("__debug__" : Str)) = false := by decide) (hdbD : (xD == ("__debug__" : Str)) = false := by decide) (hdbn : (n == ("__debug__" : Str)) = false := by decide) (hcdn : (n == ("__classdict__" : Str)) = false := by decide)
    (hst : starEach (e :: es) X.env = (false, eval e X.env) :: starEach es X.env := by rfl) (hpl : (backTo cpos (starEach es X.env)).any (·.1) = false := by rfl) :
    PS X (.Try body [.ExceptHandler (some (.Name x np)) (some n) [.Raise (some (.Call (.Name xD npD) (e :: es) [] cpos)) (some (.Name n np2)) rpos] hpos] [] [] pos) (tTryF X.K C i tb W CD sp t) := by
  intro pins s σ H D I h
  refine wpAny_Try_except ?_
  refine wpAny_mono (hb pins _ [] s σ H D (I.toMore.wish _) h) (fun f s1 q => ?_) (fun e s1 q => ?_)
  · cases f with
    | next =>
      obtain ⟨σ', H', I', q⟩ := q
      exact wpAny_execs_nil ⟨σ', H', Inv.ofMore I.ok I'.unwish, q⟩
    | brk => obtain ⟨σ', H', I', q⟩ := q; exact ⟨σ', H', Inv.ofMore I.ok I'.unwish, q⟩
    | cont => obtain ⟨σ', H', I', q⟩ := q; exact ⟨σ', H', Inv.ofMore I.ok I'.unwish, q⟩
    | ret u => obtain ⟨v, σ', H', I', r, q⟩ := q; exact ⟨v, σ', H', Inv.ofMore I.ok I'.unwish, r, q⟩
  · obtain ⟨pins', σ', Hc, sc, Ic, ea, cls, a0, B, H', od, di, rfl, os, bare, u, hok, hea, hsc, fl, old, hW, ⟨Dc, ec, hmro⟩, hth⟩ := q
    have I1 : Inv (X.more pins) pins' σ' H' s1 := Ic.call' os u hok bare fun b z => absurd z (by simp)
    have fl' := fl
    rw [O.stk] at fl'
    have hfr0 : X.A.frames = some (X.env :: X.outer) := by rw [I.ok.frames, O.stk]
    refine wpAny_mono (any_both (wpAny_looks_onW (Q := fun _ s' => ∃ h4, s' = { s1 with heap := h4 } ∧ Heap.HeldW B (X.env :: X.outer) ea cls a0 X.env.locals h4 ∧ s1.heap.UpToSlots h4) (E := fun _ _ => False) hfr0 O.frm fl' fun h4 held up4 => ⟨h4, rfl, held, up4⟩) (note_dict (E := fun _ _ => False) hfr0 fl'.2.2.1 O.frm fl'.2.2.2 di)) (fun _ s4 z4 => ?_) (fun _ _ z => z.1.elim)
    obtain ⟨⟨h4, rfl, held, up4⟩, d4⟩ := z4
    refine wpAny_mono (any_both (wpAny_landsW (Q := fun _ s' => ∃ h5, s' = { s1 with heap := h5 } ∧ Heap.FlyingW B (X.env :: X.outer) ea cls a0 h5 ∧ h4.UpToSlots h5) (E := fun _ _ => False) held fun h5 fl5 up5 => ⟨h5, rfl, fl5, up5⟩) (land_dict (E := fun _ _ => False) held.2.2.2 d4)) (fun _ s5 z5 => ?_) (fun _ _ z => z.1.elim)
    obtain ⟨⟨h5, rfl, fl5, up5⟩, d5⟩ := z5
    have hfr : ∀ b ∈ frs X.stack, ∃ o, s1.heap.get? b = some o ∧ ∀ vs, o.data ≠ .fields vs := fun b hb => by
      obtain ⟨_, o, ho, hd⟩ := fl.2.2.1.mem hb
      exact ⟨o, ho, hd⟩
    have at_ : ∀ {h6 : Heap}, B.StaysIn h6 → s1.heap.UpToSlots h6 → Inv (X.more pins) pins' σ' H' { s1 with heap := h6 } := fun {h6} hB up => by
      obtain ⟨u6, hok6, _⟩ := un_fly u hok fl.1 hB up hfr I1.stkFree old
      exact Ic.call' (s' := { s1 with heap := h6 }) os u6 hok6 bare fun b z => absurd z (by simp)
    have I5 := at_ fl5.1 (up4.trans up5)
    have J5 := I5.toCatch (ea := ea)
    obtain ⟨ob, hob, hobc⟩ := fl5.there
    refine wpAny_handleBy_cons (codeAny_handlers_test (ld_glob (X := X.catchX ea pins) J5 hg hm ?_ hdb)) (by intro q; cases q)
    have LT : PySem.W.Looks (model X.prog X.w) h5 (typeOf (.ref ea)) cls := by
      subst hobc
      exact (PySem.W.Looks.ld hob).andThen .now
    refine (PySem.W.exm_one (K := X.K) (h := h5) J5.kIn LT hW).here (s := { s1 with heap := h5 }) ?_
    show codeAny _ _ _ _ _
    refine codeAny_handlers_suite_as ?_
    have fl5' : Heap.FlyingW B (X.env :: X.outer) ea cls a0 h5 := fl5
    refine wpAny_mono (any_both (lands_againW (s := { s1 with heap := h5 }) (Q := fun _ s' => ∃ h6, s' = { s1 with heap := h6 } ∧ Heap.FlyingW B (X.env :: X.outer) ea cls a0 h6 ∧ h5.UpToSlots h6) (E := fun _ _ => False) fl5' fun h6 fl6 up6 => ⟨h6, rfl, fl6, up6⟩) (land_dict (s := { s1 with heap := h5 }) (E := fun _ _ => False) fl5'.2.2.2.at d5)) (fun _ s6 z6 => ?_) (fun _ _ z => z.1.elim)
    obtain ⟨⟨h6, rfl, fl6, up6⟩, oe, vs, hoe, hoed, hod, h62⟩ := z6
    have I6 := at_ fl6.1 (up4.trans (up5.trans up6))
    have J6 := I6.toCatch (ea := ea)
    have hoec : oe.cls = cls := by
      obtain ⟨oe2, _, hoe2, hc2, _⟩ := fl6.first
      rw [hoe] at hoe2
      cases hoe2
      exact hc2
    have h0 : X.s₀.heap.get? ea = none := by
      cases q : X.s₀.heap.get? ea with
      | none => rfl
      | some o =>
        obtain ⟨o', e⟩ := Ic.base.there ea o q (by rw [show (X.more pins).ex = [] from O.exs]; simp)
        rw [hsc] at e; cases e
    have J7 := J6.trackO (ho' := excV ea cls od) hea h0 hoe hoed (fun H2 => by have := excV_ok (P := X.prog) (w := X.w) (H := H2) hoe hoec hoed h62; rw [hod] at this; exact this) (fun p hp z => by
      have := (Ic.pin p (List.mem_append_left _ (by simpa using (show p ∈ (X.pn ++ pins) ++ [] from hp)))).1
      rw [z, hsc] at this; cases this)
    refine store_ok (X := X.catchX ea pins) (pins := []) (σ := σ') (H := upd H' ea (excV ea cls od)) (i := i) (v := .ref ea) J7 hN hi (.inl hk) rfl (fun s8 J8 => ?_) (.inr hk)
    subst ec
    have O' : Own (X.catchX ea pins) := ⟨O.stk, O.frm, O.exs⟩
    obtain ⟨f, fd, hmD, MD, hbD, F⟩ := DD
    obtain ⟨tl, N, nm, qn, bs, hdct, sn, sub, ab, col, dd, k0, k1, k2, k3, k5, mN, hC, hNs, hni, T⟩ := own_obj J8.kIn MD.own
    have hbase := T.hasType PySem.F.excBase_ValueError.hasBase
    have raised : wpAny (model X.prog X.w) (X.A.mark (some (.ref ea))) (exec (.Raise (some (.Call (.Name xD npD) (e :: es) [] cpos)) (some (.Name n np2)) rpos) X.env) (fun _ _ => False)
        (AsSuiteRaised (model X.prog X.w) (X.A.mark (some (.ref ea))) X.env n hpos (notedBy (model X.prog X.w) (X.A.mark (some (.ref ea))) X.env (cameBackBy (model X.prog X.w) X.A X.env X.xe))) s8 := by
      rw [arm_exec_Raise]
      refine wpAny_bind (wpAny_standAt ?_)
      refine raiseStmt_from (K := X.K) (D := Dc) (ea := ea) (C := CD) (nm := nm) (q := qn) (N := N) (bs := bs) (bm := tl) (hdct := hdct) (sn := sn) (sub := sub) (ab := ab) (col := col) (dd := dd) (k0 := k0) (k1 := k1) (k2 := k2) (k3 := k3) (k5 := k5) (newId := "ValueError.__new__") hbase rfl ?_
      refine wpAny_bind (wpAny_mono (E := fun _ _ => False) ?_ (fun v s3 h3 => wpAny_bind (wpAny_standAt (wpAny_pure h3))) fun _ _ z => False.elim z)
      refine wpAny_Call_Name_kw (ld_glob (X := X.catchX ea pins) J8 hgD hmD ?_ hdbD)
      refine PySem.W.callWith_K (h₀ := X.base) J8.ok.mod.kin MD.kp (thn (ha ea pins cpos [] s8 _ _ _ J8 (hth ea hea)) fun us s1 ⟨vs, H1, I1, r, hz, hE1, q⟩ => ⟨I1.kIn, ?_⟩) hst hpl
      obtain ⟨tl1, N1, nm1, qn1, bs1, hdct1, sn1, sub1, ab1, col1, dd1, l0, l1, l2, l3, l5, mN1, hC1, hN1, hni1, T1⟩ := own_obj I1.kIn MD.own
      obtain ⟨of, hof, hofc⟩ := Option.map_eq_some_iff.mp (show PySem.W.typeIn X.K (.ref f) = some (.type "function") from beq_iff_eq.mp MD.fn)
      refine call_own PySem.F.excBase_ValueError T1 (I1.kIn _ _ hC1) hN1 hni1 (I1.kIn _ _ hof) hofc (by show us.length ≤ sizeLine; rw [← r.length]; exact hz) fun h' na mk => ?_
      have hna : H1 na = none := by
        cases q : H1 na with
        | none => rfl
        | some v =>
          obtain ⟨o, e⟩ := objOk_there (I1.hok na v q)
          rw [mk.new] at e; cases e
      have hs0 : X.s₀.heap.get? na = none := by
        cases q : X.s₀.heap.get? na with
        | none => rfl
        | some o =>
          obtain ⟨o', e⟩ := I1.base.there na o q (by rw [O'.exs]; simp)
          rw [mk.new] at e; cases e
      have hpn : ∀ p ∈ (X.catchX ea pins).pn ++ [], p.1 ≠ na := fun p hp z => by
        have := (I1.pin p hp).1
        rw [z, mk.new] at this; cases this
      have I2 := I1.madeE mk
      have hq := q na hna
      have r2 : Vals (V.ref na :: vs) (Value.ref na :: us) := .cons rfl r
      have hl : ((Value.ref na :: us) ++ []).length = ps.length := by
        rw [List.append_nil]
        have e := r2.length
        rw [F.len _ _ _ _ _ hq] at e
        exact e.symm
      have hb' := hbD _ (Value.ref na :: us) I2.kIn hl
      rw [List.append_nil] at hb'
      refine wpAny_call (codeAny_mono (F.run ea _ X.stack _ _ ⟨Value.ref na :: us, []⟩ (Value.ref na :: us) _ _ E0 ((RoomH.of (ea := ea) hr).make CD us []) (I2.env0.make CD us []) hb' r2 hq) fun r s' hq' => ?_)
      cases r with
      | error e => exact False.elim hq'
      | ok fl =>
        cases fl with
        | ret u =>
          obtain ⟨v, H', I3, rv, ev, dx, hM, hE, hWW⟩ := I2.after hq'
          subst ev
          refine ⟨rv, na, rfl, ?_⟩
          have hvis : Vis (X.catchX ea pins).env.scope n := .inl hk
          have hσ : (σ'.set i (some (V.ref ea)))[i]? = some (some (V.ref ea)) := by
            have : i < σ'.length := by
              have := J8.len
              rw [List.length_set] at this
              rw [this]
              exact (List.getElem?_eq_some_iff.mp hi).1
            simp [this]
          refine wpAny_bind (wpAny_mono ((pv (X := X.catchX ea pins) i hi hvis hdbn hcdn) [] s' _ H' (fun v H => v = .ref ea ∧ H = H') I3 ⟨_, hσ, rfl, rfl⟩) (fun cv s2 hcv => wpAny_bind (wpAny_standAt (wpAny_pure ?_))) fun _ _ z => False.elim z)
          obtain ⟨cv', H2, I4, rcv, rfl, rfl⟩ := hcv
          refine ⟨rcv, ?_⟩
          obtain ⟨oe, ws, a0, he, hcl, hda, h0, h1, hdi, h22, h5z⟩ := id (show excP2 na CD (some dx) s2.heap from (I4.hok na _ hM).1)
          obtain ⟨oa, wa, hoa, hoac, hoad, hoa2⟩ : ∃ oa wa, s2.heap.get? ea = some oa ∧ oa.cls = .ref Dc ∧ oa.data = .fields wa ∧ wa[2]? = some .none := by
            cases od with
            | none =>
              obtain ⟨o, vs, a1, a2, a3, a4⟩ := (show excP ea (.ref Dc) s2.heap from (I4.hok ea _ hE).1)
              exact ⟨o, vs, a1, a2, a3, a4⟩
            | some dy =>
              obtain ⟨o, vs, a1, a2, a3, _, a4⟩ := (show excPd ea (.ref Dc) dy s2.heap from (I4.hok ea _ hE).1)
              exact ⟨o, vs, a1, a2, a3, a4⟩
          have nea : ea ≠ na := fun z => by
            obtain ⟨o, e⟩ := objOk_there (I1.hok ea _ hE1)
            rw [z, mk.new] at e
            cases e
          refine ⟨oe, ws, oa, wa, I4.kIn _ _ hC, he, hcl, hda, h1, h5z, nea, hoa, hoac, hoad, hoa2, I4.kIn, hmro, fun h5 oe' vs' b1 b2 b3 b4 b5 b6 b7 => ?_⟩
          have I4u := I4.untrack hM
          have I5 := I4u.noted (h4 := h5) O' he hda (fun b o hb => by
            have hb1 := PySem.W.of_hideAll _ hb
            have : b ≠ na := fun z => by
              rw [z, PySem.W.hideAll_none _ (List.mem_cons_self ..)] at hb
              cases hb
            exact (b7 b this).trans hb1) (fun b o hb nf => ⟨o.slots, (b7 b (fun z => by rw [z, he] at hb; cases hb; exact nf ws hda)).trans hb⟩) hs0 hide_at hpn
          have hfr' : (X.A.mark (some (.ref ea))).frames = some (X.env :: X.outer) := hfr0
          refine suite_raised (X := X.catchX ea pins) (s := { s2 with heap := h5 }) O' hfr' I5 hN hi hk b1 b4 (b5.trans h0) b6 hs0 hide_at hpn fun s7 B I7 held old' di => ?_
          refine hpass ea _ _ (hw pins _ _ s7 na _ a0 B _ (Inv.ofCatch I.ok I7) held old' di hide_at hs0 ?_)
          rw [b2, b3, hcl, hdi]
          exact hWW
        | next => exact False.elim hq'
        | brk => exact False.elim hq'
        | cont => exact False.elim hq'
    exact wpAny_execs_cons (wpAny_mono raised (fun _ _ z => False.elim z) (fun _ _ z => z))
end L2
set_option maxRecDepth 100000
namespace L2
open PySem PySem.Spec PyProof.Rows
section
variable {M : Model} {A : Around} {E : Value → Shared → Prop} {s : Shared} {base : Heap} {env : Env} {outer : List Env} {L e : Addr} {oe : Obj} {vs : Array Value}
theorem noteC_dict {cls a0 : Value} {od : Option Addr} (hfr : A.frames = some (env :: outer)) (hl : s.heap.FunFrames base (env :: outer)) (hf : env.frame = some L) (ht : s.heap.TracedW base e cls a0) (ho : DictC s.heap e od) :
    wpAny M A (noteFrame (.ref e) env) (fun _ s' => DictC s'.heap e od) E s := by
  obtain ⟨oe, vs, T, oT, ts, he, _, hd, h1, hnT, ne, hT, hdT, h3⟩ := ht
  obtain ⟨oe2, vs2, he2, hd2', ho⟩ := ho
  rw [he] at he2
  cases he2
  rw [hd] at hd2'
  cases hd2'
  unfold noteFrame
  simp only [hf]
  refine wpAny_bind (wpAny_field he hd h1 ?_)
  rw [if_pos (by simp)]
  refine wpAny_bind (wpAny_field hT hdT h3 ?_)
  rw [if_neg (by simp [rawInt])]
  refine wpAny_bind (wpAny_setField hT hdT (Array.getElem?_eq_some_iff.mp h3).1 ?_)
  have oth : ∀ b, b ≠ T → (s.heap.update T (Obj.mapFields (·.setIfInBounds 3 Value.none))).get? b = s.heap.get? b := fun b hb => Heap.get?_update_other _ _ (Ne.symm hb)
  have hl2 := hl.of_keeps (h' := s.heap.update T (Obj.mapFields (·.setIfInBounds 3 Value.none))) fun b o hb nf => ⟨o, (oth b (fun z => by rw [z, hT] at hb; cases hb; exact nf ts hdT)).trans hb, rfl⟩
  have he2 := (oth e (Ne.symm ne)).trans he
  have out : e ∉ (env :: outer).filterMap (·.frame) := fun hm => by
    obtain ⟨_, o, ho, nf⟩ := hl2.mem hm
    rw [he2] at ho
    cases ho
    exact nf vs hd
  refine wpAny_bind (wpAny_frameOf_fun hfr hl2 hf fun h1' k1 => wpAny_bind (wpAny_entryPlaceOf fun pl hpl => ?_))
  have he1 : h1'.get? e = some oe := (k1.2.1 e out).trans he2
  unfold EntryCells.newEntry newFields
  refine wpAny_bind (wpAny_newObj_type ?_ (hpl.sizeOk5 _ _ _ _ _))
  refine wpAny_setField (Heap.get?_push_of_some _ he1) hd (Array.getElem?_eq_some_iff.mp h1).1 ?_
  have hd2 := Obj.data_mapFields hd (·.setIfInBounds 1 (Value.ref h1'.objs.size))
  exact ⟨_, _, Heap.get?_update_self _ (Heap.get?_push_of_some _ he1) (Obj.isFreed_of_fields hd2), hd2, (dict_fields _ _).trans ho⟩
end
def excQ (ea : Addr) (cls : Value) (od : Option Addr) (h : Heap) : Prop := ∃ o vs, h.get? ea = some o ∧ o.cls = cls ∧ o.data = .fields vs ∧ o.dict = od
def excC (ea : Addr) (cls : Value) (od : Option Addr) : HO := .ext (excQ ea cls od)
theorem excC_ok {P : Program} {w : World} {H : Hp} {h : Heap} {ea : Addr} {cls : Value} {o : Obj} {vs : Array Value} (ho : h.get? ea = some o) (hc : o.cls = cls) (hd : o.data = .fields vs) : ObjOk P w H h ea (excC ea cls o.dict) :=
  ⟨⟨o, vs, ho, hc, hd, rfl⟩, ⟨o, ho⟩, fun h1 h2 ⟨o1, vs1, q1, q2, q3⟩ k => ⟨o1, vs1, k o1 q1, q2, q3⟩⟩
def Cx.tryC (X : Cx) (pn : List (Addr × Obj)) (W : St → XK) : Cx := (X.more pn).wish fun e s' => ∃ pins σ Hc sc, Inv (X.more pn) pins σ Hc sc ∧ CXC X.prog X.w X.stack Hc sc (W σ) e s'
def ThrOnC (X : Cx) (W : St → XK) : Prop := ∀ (pins : List (Addr × Obj)) (σ : St) (H : Hp) (s : Shared) (e : Value) (s' : Shared), Inv X pins σ H s → CXC X.prog X.w X.stack H s (W σ) e s' → X.xe e s'
theorem on_tryC {X : Cx} {pn : List (Addr × Obj)} {W : St → XK} : ThrOnC (X.tryC pn W) W := fun pins σ H s e s' I h => ⟨pins, σ, H, s, I.unwish, h⟩
theorem on_noC {X : Cx} : ThrOnC X (fun _ _ _ _ => False) := fun pins σ H s e s' I h => by
  obtain ⟨ea, cls, a0, B, H', od, _, _, _, _, _, _, _, _, _, _, z⟩ := h
  exact z.elim
def DfC (P : Program) (w : World) (K : PySem.W.Frag) (mg : Str → Option Value) (base : Heap) (k : Nat) (x : Str) (ps : List Str) (sp : Sp) : Prop :=
  ∃ f fd, mg x = some (.ref f) ∧ PySem.W.keepIn K (.ref f) = true ∧ Binds K fd ps [] ∧ FnOk P w K mg base (CXC P w) k f fd ps sp
theorem Fun.okC {P : Program} {w : World} {K : PySem.W.Frag} {mg : Str → Option Value} {base : Heap} {N : List Str} {qual : Str} {f : Addr} {x : Str} {st : Stmt} {fd : FuncData} {ps : List Str} {k : Nat} {sp : Sp} (F : Fun K x qual st f fd) (S : FnScope N ps (defScope st)) (len : ∀ vs H Q E, sp vs H Q E → vs.length = ps.length)
    (hbody : ∀ (cdv : Value) (A : Around) (outer : List Env) (s : Shared) (H : Hp) (vs : List V) (Q : VK) (E : XK), Room k (A.deeper (envOfC qual (defScope st) s.heap.objs.size f cdv)) → sp vs H Q E →
      ∃ t, PSs (cxOf (CXC P w) P w K mg base N qual (defScope st) f cdv A outer s H E) (defBody st) t ∧ t { nx := fun _ H' => Q .non H', rt := Q } (start N vs) H) : FnOk P w K mg base (CXC P w) (k + 1) f fd ps sp := by
  obtain ⟨oc, od, kV, doc, pm, an, cdv, ct, osl, rfl, lk, hcd⟩ := F.ex
  exact fn_of lk hcd S len fun A outer s H vs Q E hr hsp => hbody cdv A outer s H vs Q E hr hsp
section
variable {X : Cx} {k : Nat} {ps : List Str} {sp : Sp} {x : Str} {p pos : Pos} {e : Expr} {es : List Expr} {t : TA} {W : St → XK} {f : Addr} {fd : FuncData}
theorem run_fnC {pins : List (Addr × Obj)} {σ : St} {H : Hp} {s : Shared} {Q : VK} {us : List Value} {vs : List V} (F : FnOk X.prog X.w X.K X.mg X.base (CXC X.prog X.w) k f fd ps sp) (hr : Room k X.A) (hb : Binds X.K fd ps []) (hx : ThrOnC X W)
    (I : Inv X pins σ H s) (r : Vals vs us) (h : sp vs H Q (W σ)) : wpAny (model X.prog X.w) X.A (call (.ref f) us) (EP X pins σ Q) X.xe s := by
  have hl : (us ++ []).length = ps.length := by rw [List.append_nil, ← r.length]; exact F.len _ _ _ _ h
  have hb' := hb s us I.kIn hl
  rw [List.append_nil] at hb'
  refine wpAny_call (codeAny_mono (F.run X.A X.stack s H ⟨us, []⟩ us vs Q (W σ) hr I.env0 hb' r h) fun r s' hq => ?_)
  cases r with
  | error e => exact hx pins σ H s e s' I hq
  | ok fl =>
    cases fl with
    | ret u => exact I.after hq
    | next => exact False.elim hq
    | brk => exact False.elim hq
    | cont => exact False.elim hq
theorem pe_callC (hx : ThrOnC X W) (D : DfC X.prog X.w X.K X.mg X.base k x ps sp) (hr : Room k X.A) (hg : Gl X x)
    (ha : PA X (e :: es) t) (hdb : (x == ("__debug__" : Str)) = false := by decide) (he : starEach (e :: es) X.env = (false, eval e X.env) :: starEach es X.env := by rfl) (hpl : (backTo pos (starEach es X.env)).any (·.1) = false := by rfl) :
    PE X (.Call (.Name x p) (e :: es) [] pos) (tCallX sp W t) := by
  obtain ⟨f, fd, hm, hk, hb, F⟩ := D
  intro pins s σ H Q I h
  refine wpAny_Call_Name_kw (ld_glob I hg hm ?_ hdb)
  refine PySem.W.callWith_K (h₀ := X.base) I.ok.mod.kin hk (thn (ha pos pins s σ H _ I h) fun us s1 ⟨vs, H1, I1, r, q⟩ => ⟨I1.kIn, ?_⟩) he hpl
  exact run_fnC F hr hb hx I1 r q
end
def tTryC (K : PySem.W.Frag) (C : Addr) (i : Nat) (tb : (St → XK) → TS) (th : TS) : TS := fun D σ H =>
  tb (fun σ' cls od H' => PySem.W.exmOne K cls (.ref C) = some true ∧ ∀ ea, H' ea = none →
    th { D with nx := fun σ2 H2 => D.nx (σ2.set i none) H2, bk := fun σ2 H2 => D.bk (σ2.set i none) H2, ct := fun σ2 H2 => D.ct (σ2.set i none) H2 } (σ'.set i (some (.ref ea))) (upd H' ea (excC ea cls od))) D σ H
theorem ps_tryC {X : Cx} {body suite : List Stmt} {b₀ : Stmt} {x n : Str} {np hpos pos : Pos} {i : Nat} {C : Addr} {tb : (St → XK) → TS} {th : TS} (O : Own X) (hN : X.N.Nodup) (hi : X.N[i]? = some n) (hk : X.env.scope.names.lookup n = some .local)
    (hg : Gl X x) (hm : X.mg x = some (.ref C)) (hb : ∀ pn W, PSs (X.tryC pn W) body (tb W)) (hh : ∀ ea pn, PSs (X.catchX ea pn) (b₀ :: suite) th) (hdb : (x == ("__debug__" : Str)) = false := by decide) :
    PS X (.Try body [.ExceptHandler (some (.Name x np)) (some n) (b₀ :: suite) hpos] [] [] pos) (tTryC X.K C i tb th) := by
  intro pins s σ H D I h
  refine wpAny_Try_except ?_
  refine wpAny_mono (hb pins _ [] s σ H D (I.toMore.wish _) h) (fun f s1 q => ?_) (fun e s1 q => ?_)
  · cases f with
    | next =>
      obtain ⟨σ', H', I', q⟩ := q
      exact wpAny_execs_nil ⟨σ', H', Inv.ofMore I.ok I'.unwish, q⟩
    | brk => obtain ⟨σ', H', I', q⟩ := q; exact ⟨σ', H', Inv.ofMore I.ok I'.unwish, q⟩
    | cont => obtain ⟨σ', H', I', q⟩ := q; exact ⟨σ', H', Inv.ofMore I.ok I'.unwish, q⟩
    | ret u => obtain ⟨v, σ', H', I', r, q⟩ := q; exact ⟨v, σ', H', Inv.ofMore I.ok I'.unwish, r, q⟩
  · obtain ⟨pins', σ', Hc, sc, Ic, ea, cls, a0, B, H', od, di, rfl, os, bare, u, hok, hea, hsc, fl, old, hW, hth⟩ := q
    have I1 : Inv (X.more pins) pins' σ' H' s1 := Ic.call' os u hok bare fun b z => absurd z (by simp)
    have fl' := fl
    rw [O.stk] at fl'
    have hfr0 : X.A.frames = some (X.env :: X.outer) := by rw [I.ok.frames, O.stk]
    refine wpAny_mono (any_both (wpAny_looks_onW (Q := fun _ s' => ∃ h4, s' = { s1 with heap := h4 } ∧ Heap.HeldW B (X.env :: X.outer) ea cls a0 X.env.locals h4 ∧ s1.heap.UpToSlots h4) (E := fun _ _ => False) hfr0 O.frm fl' fun h4 held up4 => ⟨h4, rfl, held, up4⟩) (noteC_dict (E := fun _ _ => False) hfr0 fl'.2.2.1 O.frm fl'.2.2.2 di)) (fun _ s4 z4 => ?_) (fun _ _ z => z.1.elim)
    obtain ⟨⟨h4, rfl, held, up4⟩, d4⟩ := z4
    refine wpAny_mono (any_both (wpAny_landsW (Q := fun _ s' => ∃ h5, s' = { s1 with heap := h5 } ∧ Heap.FlyingW B (X.env :: X.outer) ea cls a0 h5 ∧ h4.UpToSlots h5) (E := fun _ _ => False) held fun h5 fl5 up5 => ⟨h5, rfl, fl5, up5⟩) (flightC_dict (E := fun _ _ => False) held.2.2.2 d4)) (fun _ s5 z5 => ?_) (fun _ _ z => z.1.elim)
    obtain ⟨⟨h5, rfl, fl5, up5⟩, d5⟩ := z5
    have hfr : ∀ b ∈ frs X.stack, ∃ o, s1.heap.get? b = some o ∧ ∀ vs, o.data ≠ .fields vs := fun b hb => by
      obtain ⟨_, o, ho, hd⟩ := fl.2.2.1.mem hb
      exact ⟨o, ho, hd⟩
    have at_ : ∀ {h6 : Heap}, B.StaysIn h6 → s1.heap.UpToSlots h6 → Inv (X.more pins) pins' σ' H' { s1 with heap := h6 } := fun {h6} hB up => by
      obtain ⟨u6, hok6, _⟩ := un_fly u hok fl.1 hB up hfr I1.stkFree old
      exact Ic.call' (s' := { s1 with heap := h6 }) os u6 hok6 bare fun b z => absurd z (by simp)
    have I5 := at_ fl5.1 (up4.trans up5)
    have J5 := I5.toCatch (ea := ea)
    obtain ⟨ob, hob, hobc⟩ := fl5.there
    refine wpAny_handleBy_cons (codeAny_handlers_test (ld_glob (X := X.catchX ea pins) J5 hg hm ?_ hdb)) (by intro q; cases q)
    have LT : PySem.W.Looks (model X.prog X.w) h5 (typeOf (.ref ea)) cls := by
      subst hobc
      exact (PySem.W.Looks.ld hob).andThen .now
    refine (PySem.W.exm_one (K := X.K) (h := h5) J5.kIn LT hW).here (s := { s1 with heap := h5 }) ?_
    show codeAny _ _ _ _ _
    refine codeAny_handlers_suite_as ?_
    have fl5' : Heap.FlyingW B (X.env :: X.outer) ea cls a0 h5 := fl5
    refine wpAny_mono (any_both (lands_againW (s := { s1 with heap := h5 }) (Q := fun _ s' => ∃ h6, s' = { s1 with heap := h6 } ∧ Heap.FlyingW B (X.env :: X.outer) ea cls a0 h6 ∧ h5.UpToSlots h6) (E := fun _ _ => False) fl5' fun h6 fl6 up6 => ⟨h6, rfl, fl6, up6⟩) (flightC_dict (s := { s1 with heap := h5 }) (E := fun _ _ => False) fl5'.2.2.2.at d5)) (fun _ s6 z6 => ?_) (fun _ _ z => z.1.elim)
    obtain ⟨⟨h6, rfl, fl6, up6⟩, oe, vs, hoe, hoed, hod⟩ := z6
    have I6 := at_ fl6.1 (up4.trans (up5.trans up6))
    have J6 := I6.toCatch (ea := ea)
    have hoec : oe.cls = cls := by
      obtain ⟨oe2, _, hoe2, hc2, _⟩ := fl6.first
      rw [hoe] at hoe2
      cases hoe2
      exact hc2
    have h0 : X.s₀.heap.get? ea = none := by
      cases q : X.s₀.heap.get? ea with
      | none => rfl
      | some o =>
        obtain ⟨o', e⟩ := Ic.base.there ea o q (by rw [show (X.more pins).ex = [] from O.exs]; simp)
        rw [hsc] at e; cases e
    have J7 := J6.trackO (ho' := excC ea cls od) hea h0 hoe hoed (fun H2 => by have := excC_ok (P := X.prog) (w := X.w) (H := H2) hoe hoec hoed; rw [hod] at this; exact this) (fun p hp z => by
      have := (Ic.pin p (List.mem_append_left _ (by simpa using (show p ∈ (X.pn ++ pins) ++ [] from hp)))).1
      rw [z, hsc] at this; cases this)
    refine store_ok (X := X.catchX ea pins) (pins := []) (σ := σ') (H := upd H' ea (excC ea cls od)) (i := i) (v := .ref ea) J7 hN hi (.inl hk) rfl (fun s8 J8 => ?_) (.inr hk)
    refine wpAny_mono (hh ea pins [] s8 _ _ _ J8 (hth ea hea)) (fun f s9 q9 => ?_) (fun _ _ z => False.elim z)
    cases f with
    | next =>
      obtain ⟨σ9, H9, I9, q⟩ := q9
      exact name_gone (X := X.catchX ea pins) I9 hN hi hk fun s10 I10 => ⟨_, H9, Inv.ofCatch I.ok I10, q⟩
    | brk =>
      obtain ⟨σ9, H9, I9, q⟩ := q9
      exact name_gone (X := X.catchX ea pins) I9 hN hi hk fun s10 I10 => ⟨_, H9, Inv.ofCatch I.ok I10, q⟩
    | cont =>
      obtain ⟨σ9, H9, I9, q⟩ := q9
      exact name_gone (X := X.catchX ea pins) I9 hN hi hk fun s10 I10 => ⟨_, H9, Inv.ofCatch I.ok I10, q⟩
    | ret u =>
      obtain ⟨v, σ9, H9, I9, r, q⟩ := q9
      exact name_gone (X := X.catchX ea pins) I9 hN hi hk fun s10 I10 => ⟨v, _, H9, Inv.ofCatch I.ok I10, r, q⟩
open PySem.W in
theorem kitx_excC {K : Frag} {x D : Addr} {od : Option Addr} (T : ExcK K D) : KitX K (.ref x) (.ref D) (excQ x (.ref D) od) where
  ty := fun M h _ p => by
    obtain ⟨o, vs, ho, hc, _⟩ := p
    exact hc ▸ (Looks.ld ho).andThen .now
  it := fun _ _ X _ => by
    obtain ⟨cdD, hcD, _⟩ := any_some T.ic
    unfold clsIn at hcD
    split at hcD
    · rename_i c' d' cd' sl' ho
      intro A' Q' E' s' k q
      unfold isType loadHead
      exact wpAny_bind (wpAny_loadPart (k _ _ (X _ _ ho)) (wpAny_pure q))
    · cases hcD
  ne := fun h tp dd its n sl X htp => by
    obtain ⟨cdD, hcD, _⟩ := any_some T.ic
    refine Bool.eq_false_iff.mpr fun q => ?_
    have e : D = tp := Value.ref.inj (beq_iff_eq.mp q)
    subst e
    unfold clsIn at hcD
    split at hcD
    · rename_i c' d' cd' sl' ho
      have z := (X _ _ ho).symm.trans htp
      cases z
    · cases hcD
  ca := fun X p k => by
    obtain ⟨o, vs, ho, hc, _⟩ := p
    exact exc_class T X ho hc k
section
open PySem.W
variable {X : Cx}
theorem excQ_of {pins : List (Addr × Obj)} {σ : St} {H : Hp} {s : Shared} {ea : Addr} {cls : Value} {od : Option Addr} (I : Inv X pins σ H s) (h : H ea = some (excC ea cls od)) : excQ ea cls od s.heap := (I.hok ea _ h).1
theorem isiEc (K : Frag) (hK : X.K = K := by rfl) : CallR X (.builtin "isinstance") (fun xs H Q => ∃ ea D od c b, xs = [.ref ea, c] ∧ H ea = some (excC ea (.ref D) od) ∧ ExcK K D ∧ ((∃ C, c = .ref C ∧ kitOne K (.ref D) (.ref C) = some b) ∨ (∃ T, c = .ty T ∧ kitOne K (.ref D) (.type T) = some b)) ∧ Q (.bl b) H) := by
  subst hK
  intro pins s σ H xs us Q I r h
  obtain ⟨ea, D, od, c, b, rfl, he, T, hc, q⟩ := h
  obtain ⟨u, v, rfl, r1, r2⟩ := vals2 r
  cases r1
  rcases hc with ⟨C, rfl, e⟩ | ⟨T', rfl, e⟩
  · cases r2
    exact kia_one (kitx_excC T) I.kIn (excQ_of I he) e (fun z => nomatch z) fun tk => ⟨.bl b, H, I.tok tk, rfl, q⟩
  · cases r2
    exact kia_one (kitx_excC T) I.kIn (excQ_of I he) e (fun z => nomatch z) fun tk => ⟨.bl b, H, I.tok tk, rfl, q⟩
theorem isiTc (K : Frag) (hK : X.K = K := by rfl) : CallR X (.builtin "isinstance") (fun xs H Q => ∃ (ea D tp : Addr) (od : Option Addr) (Cs : List Addr) (b : Bool), xs = [.ref ea, .ref tp] ∧ H ea = some (excC ea (.ref D) od) ∧ ExcK K D ∧ H tp = some (.tup (Cs.map V.ref)) ∧ kitAny K (.ref D) (Cs.map Value.ref) = some b ∧ Q (.bl b) H) := by
  subst hK
  intro pins s σ H xs us Q I r h
  obtain ⟨ea, D, tp, odd, Cs, b, rfl, he, T, ht, e, q⟩ := h
  obtain ⟨u, v, rfl, r1, r2⟩ := vals2 r
  cases r1
  cases r2
  obtain ⟨_, its, rv, ⟨oc, od, oda, osl⟩, ho, hcl, n, hd⟩ := (show ObjOk X.prog X.w H s.heap tp (.tup (Cs.map V.ref)) from I.hok tp _ ht)
  have ei := vals_refs rv
  subst ei
  dsimp only at hcl hd
  subst hcl
  subst hd
  exact kia_tup (kitx_excC T) I.kIn (excQ_of I he) ho e (fun z => nomatch z) fun tk => ⟨.bl b, H, I.tok tk, rfl, q⟩
theorem getC_ok {pins : List (Addr × Obj)} {σ : St} {H : Hp} {s : Shared} {A : Around} {E : Value → Shared → Prop} {ea D dx : Addr} {f : Str} {fs : List (Str × V)} {v : V} {b : Bool} {Q : Value → Shared → Prop} (I : Inv X pins σ H s) (he : H ea = some (excC ea (.ref D) (some dx))) (hx : H dx = some (.xd fs)) (T : ExcA X.K D f) (l : fs.lookup f = some v)
    (h : ∀ u s', Inv X pins σ H s' → RelV v u → Q u s') : wpAny (model X.prog X.w) A (getAttr (.ref ea) f b) Q E s := by
  obtain ⟨o, ws, ho, hc, hd, hdi⟩ := id (show excQ ea (.ref D) (some dx) s.heap from (I.hok ea _ he).1)
  obtain ⟨mA, hns, r⟩ := id (show ∃ mA, s.heap.Ns1 dx mA ∧ ∀ f, RelO (fs.lookup f) (mA f) from I.hok dx _ hx)
  obtain ⟨od, hod, hl⟩ := lookIn_ns hns
  have J : InstAt s.heap ea o D (some od) := ⟨ho, hc, by unfold notCls; rw [hd], by rw [hdi]; exact hod⟩
  obtain ⟨u, hu, ru⟩ := RelO.some_of (v := v) (o := mA f) (by rw [← l]; exact r f)
  exact exc_get T.k I.kIn J (findObj_own T.k.ic T.na rfl (by rw [hl, hu])) (handed_of ru) (h u _ (I.tok _) ru)
def tFldC (K : Frag) (ta : TE) (f : Str) : TE := fun σ H Q => ta σ H fun x H1 => ∃ ea D dx fs v, x = .ref ea ∧ H1 ea = some (excC ea (.ref D) (some dx)) ∧ H1 dx = some (.xd fs) ∧ ExcA K D f ∧ fs.lookup f = some v ∧ Q v H1
theorem pe_fldC {e : Expr} {f : Str} {pos : Pos} {ta : TE} (he : PE X e ta) (hb : attributeBase e f X.env (eval e X.env) = eval e X.env) : PE X (.Attribute e f pos) (tFldC X.K ta f) := by
  intro pins s σ H Q I h
  refine attr_of hb (thn (he pins s σ H _ I h) fun u s1 ⟨x, H1, I1, rx, ea, D, dx, fs, v, ex, h1, h2, T, l, q⟩ => ?_)
  subst ex
  obtain rfl : u = Value.ref ea := rx
  exact getC_ok I1 h1 h2 T l fun u' s2 I2 ru => ⟨v, H1, I2, ru, q⟩
theorem fldCK (K : PySem.W.Frag) {e : Expr} {f : Str} {pos : Pos} {ta : TE} (he : PE X e ta) (hb : attributeBase e f X.env (eval e X.env) = eval e X.env) (h : X.K = K := by rfl) : PE X (.Attribute e f pos) (tFldC K ta f) := h ▸ pe_fldC he hb
end
end L2
set_option maxRecDepth 100000
namespace L2
open PySem PySem.Spec PyProof.Rows
section
variable {X : Cx}
end
end L2
set_option maxRecDepth 100000
namespace L2
open PySem PySem.Spec PyProof.Rows
section
variable {X : Cx}
end
end L2
set_option maxRecDepth 100000
namespace L2
open PySem PySem.Spec PyProof.Rows
section
variable {X : Cx}
end
def oV : Option Key → V
  | none => .non
  | some k => kV k
def isN : Hp → V → Option Key → Prop := fun _ x k => x = oV k
theorem flat_oV : ∀ k : Option Key, flatV (oV k) = true
  | none => rfl
  | some k => flat_kV k
theorem eqV_oV : ∀ a b : Option Key, eqV (oV a) (oV b) = decide (a = b)
  | none, none => rfl
  | none, some b => by cases b <;> exact (decide_eq_false (fun z => nomatch z)).symm
  | some a, none => by cases a <;> exact (decide_eq_false (fun z => nomatch z)).symm
  | some a, some b => by
    show eqV (kV a) (kV b) = _
    rw [eqV_kV, Bool.eq_iff_iff, decide_eq_true_iff, decide_eq_true_iff]
    exact ⟨congrArg some, Option.some.inj⟩
theorem oV_inj : ∀ {a b : Option Key}, oV a = oV b → a = b
  | none, none, _ => rfl
  | none, some b, h => by cases b <;> cases h
  | some a, none, h => by cases a <;> cases h
  | some a, some b, h => congrArg some (kV_inj h)
theorem eqk_opt {K : PySem.W.Frag} : EqK K isN 0 where
  eq := by
    intro X A pins s σ H x y v u a b _ I rx ry ha hb _
    cases ha
    cases hb
    rw [← eqV_oV]
    exact eqAt_V rx ry (flat_oV a) (flat_oV b)
  fn := by
    intro X pins s σ H x a b _ I ha hb
    unfold isN at ha hb
    rw [ha] at hb
    exact oV_inj hb
theorem tup_isTs {K : PySem.W.Frag} {H : Hp} {p : Addr} {as : List (Option Key)} (h : H p = some (.tup (as.map oV))) : isTs K isN H (.ref p) as := by
  refine ⟨p, _, rfl, SqT.of h, ?_⟩
  clear h
  induction as with
  | nil => exact .nil
  | cons a as ih => exact .cons rfl ih
section
variable {X : Cx} {α : Type} [DecidableEq α] {R : Hp → V → α → Prop} {k : Nat}
theorem op_eqT (h : EqK X.K R k) (hu : X.A.units + (k + 1) < cLine) : OpR X (compareOp .Eq) (fun x y H Q => ∃ as bs, isTs X.K R H x as ∧ isTs X.K R H y bs ∧ Q (.bl (decide (as = bs))) H) := by
  intro pins s σ H x y v u Q I rx ry hw
  obtain ⟨as, bs, ⟨p, vs, rfl, h1, h2⟩, ⟨p', ws, rfl, h3, h4⟩, q⟩ := hw
  cases rx
  cases ry
  obtain ⟨its, r1, pl, hz⟩ := I.tuple h1
  obtain ⟨its2, r2, pl2, hz2⟩ := I.tuple h3
  have l1 := r1.length
  have l2 := r2.length
  have l3 := Paired.length h2
  have l4 := Paired.length h4
  have he := isTs_at (A := X.A.in1) h rfl I r1 r2 h2 h4 (by rw [Around.in1_units]; omega)
  have e : ((List.range (min its.toArray.size its2.toArray.size)).all (fun j => decide (as[j]? = bs[j]?)) && its.toArray.size == its2.toArray.size) = decide (as = bs) := by
    rw [List.size_toArray, List.size_toArray, Bool.eq_iff_iff, Bool.and_eq_true, List.all_eq_true, decide_eq_true_iff, beq_iff_eq]
    constructor
    · rintro ⟨hh, hl⟩
      apply List.ext_getElem?
      intro i
      by_cases hi : i < its.length
      · exact of_decide_eq_true (hh i (List.mem_range.mpr (by omega)))
      · rw [List.getElem?_eq_none (by omega), List.getElem?_eq_none (by omega)]
    · rintro rfl
      exact ⟨fun i _ => decide_eq_true rfl, by omega⟩
  refine SeqAt.eq_tupleAt (e := fun j => decide (as[j]? = bs[j]?)) pl pl2 (by omega) he ?_
  rw [e]
  exact ⟨.bl _, H, I, rfl, q⟩
theorem eqTK (K : PySem.W.Frag) (hK : EqK K R k) (hu : X.A.units + (k + 1) < cLine) (h : X.K = K := by rfl) : OpR X (compareOp .Eq) (fun x y H Q => ∃ as bs, isTs K R H x as ∧ isTs K R H y bs ∧ Q (.bl (decide (as = bs))) H) := by
  subst h; exact op_eqT hK hu
end
end L2
set_option maxRecDepth 100000
namespace L2
open PySem
section
variable {prog : Program} {w : World} {A : Around} {E : Value → Shared → Prop} {s : Shared} {a : Addr}
end
section
variable {prog : Program} {w : World} {κ : Type} [DecidableEq κ] {knd : KeyKind prog w κ}
end
section
variable {X : Cx}
end
end L2
set_option maxRecDepth 100000
namespace L2
open PySem PySem.Spec PySem.Calls PyProof.Rows
section
variable {X : Cx}
end
end L2
namespace Mw
end Mw
set_option maxRecDepth 100000
namespace L2
open PySem PySem.Spec PyProof.Rows
section
variable {X : Cx} {α : Type} [DecidableEq α] {R : Hp → V → α → Prop} {k : Nat}
theorem op_neT (h : EqK X.K R k) (hu : X.A.units + (k + 1) < cLine) : OpR X (compareOp .NotEq) (fun x y H Q => ∃ as bs, isTs X.K R H x as ∧ isTs X.K R H y bs ∧ Q (.bl (!decide (as = bs))) H) := by
  intro pins s σ H x y v u Q I rx ry hw
  obtain ⟨as, bs, ⟨p, vs, rfl, h1, h2⟩, ⟨p', ws, rfl, h3, h4⟩, q⟩ := hw
  cases rx
  cases ry
  obtain ⟨its, r1, pl, hz⟩ := I.tuple h1
  obtain ⟨its2, r2, pl2, hz2⟩ := I.tuple h3
  have l1 := r1.length
  have l2 := r2.length
  have l3 := Paired.length h2
  have l4 := Paired.length h4
  have he := isTs_at (A := X.A.in1) h rfl I r1 r2 h2 h4 (by rw [Around.in1_units]; omega)
  have e : ((List.range (min its.toArray.size its2.toArray.size)).all (fun j => decide (as[j]? = bs[j]?)) && its.toArray.size == its2.toArray.size) = decide (as = bs) := by
    rw [List.size_toArray, List.size_toArray, Bool.eq_iff_iff, Bool.and_eq_true, List.all_eq_true, decide_eq_true_iff, beq_iff_eq]
    constructor
    · rintro ⟨hh, hl⟩
      apply List.ext_getElem?
      intro i
      by_cases hi : i < its.length
      · exact of_decide_eq_true (hh i (List.mem_range.mpr (by omega)))
      · rw [List.getElem?_eq_none (by omega), List.getElem?_eq_none (by omega)]
    · rintro rfl
      exact ⟨fun i _ => decide_eq_true rfl, by omega⟩
  refine SeqAt.RcNeAt.tuples (e := fun j => decide (as[j]? = bs[j]?)) pl pl2 (by omega) he X.prog X.w X.xe _ ?_
  rw [e]
  exact ⟨.bl _, H, I, rfl, q⟩
theorem neTK (K : PySem.W.Frag) (hK : EqK K R k) (hu : X.A.units + (k + 1) < cLine) (h : X.K = K := by rfl) : OpR X (compareOp .NotEq) (fun x y H Q => ∃ as bs, isTs K R H x as ∧ isTs K R H y bs ∧ Q (.bl (!decide (as = bs))) H) := by
  subst h; exact op_neT hK hu
end
def repS (x : Str) (n : Nat) : Str := ⟨(List.replicate n x.cps).foldl (· ++ ·) #[]⟩
theorem op_rep_str {X : Cx} : OpR X (binaryOp .Mult) (fun x y H Q => ∃ (z : Str) (k : Int), x = .str z ∧ y = .int k ∧ 2 ≤ k ∧ k ≤ 1000 ∧ 1 ≤ z.length ∧ z.length ≤ 1000 ∧ (repS z k.toNat).length ≤ sizeLine ∧ Q (.str (repS z k.toNat)) H) := by
  intro pins s σ H x y v u Q I rx ry h
  obtain ⟨z, k, rfl, rfl, k1, k2, z1, z2, hz, q⟩ := h
  obtain ⟨t, rfl⟩ := rx
  obtain ⟨t', rfl⟩ := ry
  have ne : ¬ (k == 1 || z.length == 0) = true := by
    simp only [Bool.or_eq_true, beq_iff_eq]
    omega
  refine PySem.P.mul_str ?_ (fun _ _ => ?_) (fun _ _ => ?_) ?_
  · rw [decide_eq_false (by omega), decide_eq_false (by omega)]; rfl
  · have : (1000 : Int) ≤ (2 ^ 63 - 1) / k := Int.le_ediv_of_mul_le (by omega) (by omega)
    omega
  · have h1 : z.length * k.toNat ≤ 1000 * 1000 := Nat.mul_le_mul z2 (by omega)
    exact decide_eq_false (fun h => by
      have h2 : sizeLine = 2 ^ 24 := rfl
      have h : z.length * k.toNat > sizeLine := h
      omega)
  · rw [if_neg (by omega), if_neg ne]
    exact ⟨hz, ⟨.str (repS z k.toNat), H, I.tok _, ⟨_, rfl⟩, q⟩⟩
end L2
set_option maxRecDepth 100000
namespace K25
open PySem L2
open PyProof.Rows (boot_list boot_int boot_bool boot_tuple boot_str boot_dict boot_all)
def top (i : Nat) : Stmt := PySem.Challenge.pw_mixposts_k25_lines_that_say_nothing.main.body.getD i (.Pass ⟨0, 0, 0, 0⟩)
inductive Kd where
  | house | listener | post
deriving DecidableEq
structure Cl where
  net : Addr
  post : Addr
  house : Addr
  lstn : Addr
def Cl.of (c : Cl) : Kd → Addr
  | .house => c.house
  | .listener => c.lstn
  | .post => c.post
structure Cl.Ok (K : PySem.W.Frag) (c : Cl) : Prop where
  cn : Cls K c.net
  cp : Cls K c.post
  ch : Cls K c.house
  cl : Cls K c.lstn
  fp : NoAttr K c.net "kept_posts"
  ft : NoAttr K c.net "kept_ties"
  fn : NoAttr K c.net "next_number"
  np : NoAttr K c.post "name"
  nh : NoAttr K c.house "name"
  nl : NoAttr K c.lstn "name"
  ph : c.post ≠ c.house
  pl : c.post ≠ c.lstn
  hl : c.house ≠ c.lstn
def IsPost (c : Cl) (C : Addr) : Prop := ∃ k, C = c.of k
theorem Cl.Ok.cls {K : PySem.W.Frag} {c : Cl} (o : Cl.Ok K c) : ∀ k, Cls K (c.of k)
  | .house => o.ch
  | .listener => o.cl
  | .post => o.cp
theorem Cl.Ok.nam {K : PySem.W.Frag} {c : Cl} (o : Cl.Ok K c) : ∀ k, NoAttr K (c.of k) "name"
  | .house => o.nh
  | .listener => o.nl
  | .post => o.np
abbrev Tie := Int × Str × Str × Int
structure NS where
  posts : List (Str × Kd)
  ties : List Tie
  next : Int
def PostAt (c : Cl) (H : Hp) (v : V) (p : Str × Kd) : Prop := ∃ a dx, v = .ref a ∧ H a = some (.ins (c.of p.2) dx [("name", .str p.1)])
def TieAt (H : Hp) (v : V) (t : Tie) : Prop := ∃ a, v = .ref a ∧ H a = some (.tup [.int t.1, .str t.2.1, .str t.2.2.1, .int t.2.2.2])
structure NetAt (c : Cl) (H : Hp) (n dp dt : Addr) (S : NS) : Prop where
  ins : ∃ dx, H n = some (.ins c.net dx [("kept_posts", .ref dp), ("kept_ties", .ref dt), ("next_number", .int S.next)])
  posts : ∃ kvs, H dp = some (.dK kvs) ∧ Paired (fun (kv : Key × V) p => kv.1 = Sum.inr p.1 ∧ PostAt c H kv.2 p) kvs S.posts
  ties : ∃ kvs, H dt = some (.dK kvs) ∧ Paired (fun (kv : Key × V) (t : Tie) => kv.1 = Sum.inl t.1 ∧ TieAt H kv.2 t) kvs S.ties
  ne : dp ≠ dt
theorem PostAt.mono {c : Cl} {H H' : Hp} {v : V} {p : Str × Kd} (e : Same H H') (h : PostAt c H v p) : PostAt c H' v p := let ⟨a, dx, q1, q2⟩ := h; ⟨a, dx, q1, e _ _ q2⟩
theorem TieAt.mono {H H' : Hp} {v : V} {t : Tie} (e : Same H H') (h : TieAt H v t) : TieAt H' v t := let ⟨a, q1, q2⟩ := h; ⟨a, q1, e _ _ q2⟩
theorem NetAt.mono {c : Cl} {H H' : Hp} {n dp dt : Addr} {S : NS} (e : Same H H') (h : NetAt c H n dp dt S) : NetAt c H' n dp dt S := by
  obtain ⟨⟨dx, h1⟩, ⟨kp, h2, p2⟩, ⟨kt, h3, p3⟩, h4⟩ := h
  exact ⟨⟨dx, e _ _ h1⟩, ⟨kp, e _ _ h2, Paired.mapP p2 fun _ _ ⟨a, b⟩ => ⟨a, b.mono e⟩⟩, ⟨kt, e _ _ h3, Paired.mapP p3 fun _ _ ⟨a, b⟩ => ⟨a, b.mono e⟩⟩, h4⟩
def LET : Str := "abcdefghijklmnopqrstuvwxyz"
def letIn (x : Str) : Bool := !(Builtin.Str.occurrences LET x 0 LET.length 1).isEmpty
def isName (x : Str) : Bool := decide (1 ≤ x.length) && decide (x.length ≤ 8) && (List.range x.cps.size).all fun i => letIn (sgn x i)
structure TxtL (mg : Str → Option Value) : Prop where
  n_len : mg "len" = none
  n_isinstance : mg "isinstance" = none
  n_str : mg "str" = none
  n_all : mg "all" = none
  n_list : mg "list" = none
structure TxtG (mg : Str → Option Value) : Prop where
  let_ : ∃ t, mg "LETTERS" = some (.str LET t)
  lon : ∃ t, mg "LONGEST_NAME" = some (.int 8 t)
  mop : ∃ t, mg "MOST_POSTS" = some (.int 20 t)
  mol : ∃ t, mg "MOST_LISTENERS" = some (.int 8 t)
structure TxtK (K : PySem.W.Frag) : Prop where
  ss : PySem.W.kitOne K (.type "str") (.type "str") = some true
theorem compV_str {js : List Nat} {te : TE} {σ : St} {H : Hp} {F : Addr → Hp → Prop} {x : Str} (g : Nat → V) (hz : x.cps.size ≤ 1000)
    (hs : ∀ i H2, i < x.cps.size → Same H H2 → te (some (.str (sgn x i)) :: caps σ js) H2 fun v H5 => v = g i ∧ Same H2 H5)
    (hd : ∀ l H', H l = none → Same H H' → H' l = some (.lst ((List.range x.cps.size).map g)) → F l H') : compRd 1 js (gName 0) tYes te σ F (Its x) H := by
  intro l hl0
  refine ⟨fun i m σ' H2 => m = x.cps.size - i ∧ i ≤ x.cps.size ∧ (∃ o, σ' = o :: caps σ js) ∧ Same H H2 ∧ H2 l = some (.lst ((List.range i).map g)), ⟨x.cps.size, by simp, Nat.zero_le _, ⟨none, rfl⟩, same_upd (Same.refl _) hl0, upd_same⟩, ?_⟩
  rintro i m σ' H2 ⟨rfl, hi, ⟨o, rfl⟩, e, hl⟩
  by_cases hlt : i < x.cps.size
  · refine .inr ⟨hlt, fun v H3 y => ?_⟩
    obtain ⟨rfl, rfl⟩ := y
    refine ⟨fun _ => False, fun v H5 => v = g i ∧ Same H3 H5, fun H4 p4 => p4.elim, fun v H5 ⟨ev, e5⟩ => ?_, hs i H3 hlt e⟩
    subst ev
    refine ⟨_, e5 _ _ hl, by simp only [List.length_map, List.length_range]; exact Nat.lt_of_lt_of_le hlt (Nat.le_trans hz (by decide)), _, ?_, rfl, hlt, ⟨_, rfl⟩, same_new (e.trans e5) hl0, ?_⟩
    · omega
    · rw [upd_same, List.range_succ, List.map_append]; rfl
  · have ei : i = x.cps.size := by omega
    subst ei
    exact .inl ⟨rfl, hd l H2 hl0 e hl⟩
section
variable {P : Program} {w : World} {K : PySem.W.Frag} {mg : Str → Option Value} {base : Heap}
def sp_is_name : Sp := fun vs H Q _ => ∃ x : Str, vs = [.str x] ∧ x.length ≤ 1000 ∧ ∀ H', Same H H' → Q (.bl (isName x)) H'
abbrev s_is_name : Stmt := top 20
theorem sc_is_name : FnScope ["name"] ["name"] (defScope s_is_name) := ⟨rfl, rfl, rfl, by decide +kernel, rfl, by decide +kernel, by decide +kernel⟩
theorem ok_is_name {f : Addr} {fd : FuncData} (F : Fun K "is_name" "is_name" s_is_name f fd) (T : TxtL mg) (TG : TxtG mg) (TK : TxtK K) : FnOk P w K mg base CX0 1 f fd ["name"] sp_is_name := by
  obtain ⟨tl, hg_LETTERS⟩ := TG.let_
  obtain ⟨tn, hg_LONGEST_NAME⟩ := TG.lon
  refine F.ok sc_is_name (fun vs H Q E h => ?_) (fun cdv A outer s H vs Q E hr h => ?_)
  · obtain ⟨x, rfl, _⟩ := h
    rfl
  · obtain ⟨x, rfl, hx, q⟩ := h
    have ND := sc_is_name.nd
    refine ⟨_, (pss_cons (ps_if (pt_not (pt_val (pe_callB (isiK K) rfl T.n_isinstance boot_isinstance (pa_cons (pv 0) (pa_cons (pe_bltn (v := .ty "str") rfl T.n_str boot_str rfl) pa_nil)))))
    (pss_one (ps_ret pe_bl))
    pss_nil)
  (pss_one (ps_ret (pe_and (pe_chain op_le op_le pe_int (pe_callB call_len_str rfl T.n_len boot_len (pa_cons (pv 0) pa_nil)) (pe_glob (v := .int 8) rfl hg_LONGEST_NAME ⟨_, rfl⟩)) (pe_one (pe_callB (call_allB K rfl) rfl T.n_all boot_all (pa_cons (pe_comp rfl (compScope_of (nT := 1) (js := []) (N' := ["sign"]) rfl rfl (by kernel_rfl)) (pi_str (pv 0))
    (fun _ _ _ _ _ => (pg_name (i := 0) (show List.Nodup (["sign"] : List Str) by decide +kernel) rfl (by first | exact Or.inl rfl | exact Or.inr rfl)))
    (fun _ _ _ _ _ => pif_nil)
    (fun _ _ _ _ _ => (pe_cmpR op_in_str (pv 0) (pe_glob (v := .str LET) rfl hg_LETTERS ⟨_, rfl⟩) (by with_unfolding_all rfl)))) pa_nil))))))), ?_⟩
    have hxs : x.cps.size = x.length := rfl
    refine ⟨_, rfl, .str x, _, _, _, rfl, .str x, TK.ss, _, rfl, iteF ?_⟩
    have qb : isName x = (decide (1 ≤ x.length) && decide (x.length ≤ 8) && ((List.range x.cps.size).map fun i => letIn (sgn x i)).all id) := by
      unfold isName
      rw [List.all_map]
      rfl
    refine ⟨_, rfl, x, rfl, Nat.le_trans hx (by decide), ?_⟩
    refine ⟨_, _, rfl, rfl, _, rfl, ite2 (fun h1 => ?_) (fun h1 => ?_)⟩
    · have h1 : 1 ≤ x.length := by have := of_decide_eq_true h1; omega
      refine ⟨_, _, rfl, rfl, _, rfl, ite2 (fun h2 => ?_) (fun h2 => ?_)⟩
      · have h2 : x.length ≤ 8 := by have := of_decide_eq_true h2; omega
        refine ⟨_, rfl, x, rfl, compV_str (fun i => .bl (letIn (sgn x i))) (by omega) (fun i H2 hi e => ⟨_, rfl, _, LET, rfl, rfl, rfl, Same.refl _⟩) (fun l H' hl0 e hl => ?_)⟩
        refine ⟨l, (List.range x.cps.size).map fun i => letIn (sgn x i), rfl, SqL.of (by rw [List.map_map]; exact hl), ?_⟩
        have := q H' e
        rw [qb, decide_eq_true h1, decide_eq_true h2] at this
        exact this
      · have h2 : ¬ x.length ≤ 8 := fun z => h2 (decide_eq_true (by omega))
        have := q H (Same.refl _)
        rw [qb, decide_eq_false h2, Bool.and_false, Bool.false_and] at this
        exact this
    · have h1 : ¬ 1 ≤ x.length := fun z => h1 (decide_eq_true (by omega))
      have := q H (Same.refl _)
      rw [qb, decide_eq_false h1, Bool.false_and, Bool.false_and] at this
      exact ⟨_, rfl, iteF this⟩
def sp_const (b : V) : Sp := fun vs H Q _ => ∃ v, vs = [v] ∧ Q b H
abbrev s_Post_reads : Stmt := inClass (top 24) 3
theorem sc_Post_reads : FnScope ["self"] ["self"] (defScope s_Post_reads) := ⟨rfl, rfl, rfl, by decide +kernel, rfl, by decide +kernel, by decide +kernel⟩
theorem ok_Post_reads {f : Addr} {fd : FuncData} (F : Fun K "reads" "Post.reads" s_Post_reads f fd) : FnOk P w K mg base CX0 1 f fd ["self"] (sp_const (.bl false)) := by
  refine F.ok sc_Post_reads (fun vs H Q E h => ?_) (fun cdv A outer s H vs Q E hr h => ?_)
  · obtain ⟨v, rfl, _⟩ := h
    rfl
  · obtain ⟨v, rfl, q⟩ := h
    exact ⟨_, (pss_one (ps_ret pe_bl)), q⟩
abbrev s_Listener_reads : Stmt := inClass (top 26) 1
theorem sc_Listener_reads : FnScope ["self"] ["self"] (defScope s_Listener_reads) := ⟨rfl, rfl, rfl, by decide +kernel, rfl, by decide +kernel, by decide +kernel⟩
theorem ok_Listener_reads {f : Addr} {fd : FuncData} (F : Fun K "reads" "Listener.reads" s_Listener_reads f fd) : FnOk P w K mg base CX0 1 f fd ["self"] (sp_const (.bl true)) := by
  refine F.ok sc_Listener_reads (fun vs H Q E h => ?_) (fun cdv A outer s H vs Q E hr h => ?_)
  · obtain ⟨v, rfl, _⟩ := h
    rfl
  · obtain ⟨v, rfl, q⟩ := h
    exact ⟨_, (pss_one (ps_ret pe_bl)), q⟩
abbrev s_Post_hears : Stmt := inClass (top 24) 4
theorem sc_Post_hears : FnScope ["self"] ["self"] (defScope s_Post_hears) := ⟨rfl, rfl, rfl, by decide +kernel, rfl, by decide +kernel, by decide +kernel⟩
theorem ok_Post_hears {f : Addr} {fd : FuncData} (F : Fun K "hears" "Post.hears" s_Post_hears f fd) : FnOk P w K mg base CX0 1 f fd ["self"] (sp_const (.bl true)) := by
  refine F.ok sc_Post_hears (fun vs H Q E h => ?_) (fun cdv A outer s H vs Q E hr h => ?_)
  · obtain ⟨v, rfl, _⟩ := h
    rfl
  · obtain ⟨v, rfl, q⟩ := h
    exact ⟨_, (pss_one (ps_ret pe_bl)), q⟩
abbrev s_House_hears : Stmt := inClass (top 25) 1
theorem sc_House_hears : FnScope ["self"] ["self"] (defScope s_House_hears) := ⟨rfl, rfl, rfl, by decide +kernel, rfl, by decide +kernel, by decide +kernel⟩
theorem ok_House_hears {f : Addr} {fd : FuncData} (F : Fun K "hears" "House.hears" s_House_hears f fd) : FnOk P w K mg base CX0 1 f fd ["self"] (sp_const (.bl false)) := by
  refine F.ok sc_House_hears (fun vs H Q E h => ?_) (fun cdv A outer s H vs Q E hr h => ?_)
  · obtain ⟨v, rfl, _⟩ := h
    rfl
  · obtain ⟨v, rfl, q⟩ := h
    exact ⟨_, (pss_one (ps_ret pe_bl)), q⟩
def rdB : Kd → Bool
  | .listener => true
  | _ => false
def hrB : Kd → Bool
  | .house => false
  | _ => true
def sp_readsC (c : Cl) (C : Addr) : Sp := sp_const (.bl (decide (C = c.lstn)))
def sp_hearsC (c : Cl) (C : Addr) : Sp := sp_const (.bl (!decide (C = c.house)))
theorem reads_of {c : Cl} (O : Cl.Ok K c) : ∀ k, decide (c.of k = c.lstn) = rdB k
  | .listener => decide_eq_true rfl
  | .house => decide_eq_false O.hl
  | .post => decide_eq_false O.pl
theorem hears_of {c : Cl} (O : Cl.Ok K c) : ∀ k, (!decide (c.of k = c.house)) = hrB k
  | .house => by rw [show decide (c.of .house = c.house) = true from decide_eq_true rfl]; rfl
  | .listener => by rw [show decide (c.of .listener = c.house) = false from decide_eq_false O.hl.symm]; rfl
  | .post => by rw [show decide (c.of .post = c.house) = false from decide_eq_false O.ph]; rfl
def sp_pinit (c : Cl) : Sp := fun vs H Q _ => ∃ (x : Addr) (k : Kd) (dx : Addr) (n : Str), vs = [.ref x, .str n] ∧ H x = some (.ins (c.of k) dx []) ∧ Q .non (upd H x (.ins (c.of k) dx [("name", .str n)]))
abbrev s_Post___init__ : Stmt := inClass (top 24) 0
theorem sc_Post___init__ : FnScope ["self", "name"] ["self", "name"] (defScope s_Post___init__) := ⟨rfl, rfl, rfl, by decide +kernel, rfl, by decide +kernel, by decide +kernel⟩
theorem ok_Post_init {c : Cl} {f : Addr} {fd : FuncData} (F : Fun K "__init__" "Post.__init__" s_Post___init__ f fd) (O : Cl.Ok K c) : FnOk P w K mg base CX0 1 f fd ["self", "name"] (sp_pinit c) := by
  refine F.ok sc_Post___init__ (fun vs H Q E h => ?_) (fun cdv A outer s H vs Q E hr h => ?_)
  · obtain ⟨x, k, dx, n, rfl, _⟩ := h
    rfl
  · obtain ⟨x, k, dx, n, rfl, hx, q⟩ := h
    refine ⟨_, (pss_one (ps_fld (pv 0) (pv 1) rfl)), ?_⟩
    exact ⟨_, rfl, _, rfl, x, c.of k, dx, _, rfl, hx, O.cls k, O.nam k, by decide, q⟩
def sp_ninit (c : Cl) : Sp := fun vs H Q _ => ∃ (x dx : Addr), vs = [.ref x] ∧ H x = some (.ins c.net dx []) ∧ ∀ d1 d2 H', H d1 = none → H d2 = none → d1 ≠ d2 → (∀ a o, a ≠ x → H a = some o → H' a = some o) →
  H' x = some (.ins c.net dx [("kept_posts", .ref d1), ("kept_ties", .ref d2), ("next_number", .int 0)]) → H' d1 = some (.dK []) → H' d2 = some (.dK []) → Q .non H'
abbrev s_Net___init__ : Stmt := inClass (top 27) 0
theorem sc_Net___init__ : FnScope ["self"] ["self"] (defScope s_Net___init__) := ⟨rfl, rfl, rfl, by decide +kernel, rfl, by decide +kernel, by decide +kernel⟩
theorem ok_Net_init {c : Cl} {f : Addr} {fd : FuncData} (F : Fun K "__init__" "Net.__init__" s_Net___init__ f fd) (O : Cl.Ok K c) : FnOk P w K mg base CX0 1 f fd ["self"] (sp_ninit c) := by
  refine F.ok sc_Net___init__ (fun vs H Q E h => ?_) (fun cdv A outer s H vs Q E hr h => ?_)
  · obtain ⟨x, dx, rfl, _⟩ := h
    rfl
  · obtain ⟨x, dx, rfl, hx, q⟩ := h
    refine ⟨_, (pss_cons (ps_fld (pv 0) pe_dnewK rfl)
  (pss_cons (ps_fld (pv 0) pe_dnewK rfl)
  (pss_one (ps_fld (pv 0) pe_int rfl)))), ?_⟩
    intro d1 h1
    have n1 : x ≠ d1 := ne_of_none hx h1
    refine ⟨_, rfl, x, c.net, dx, _, rfl, by rw [upd_ne n1]; exact hx, O.cn, O.fp, by decide, ?_⟩
    intro d2 h2
    have n2 : x ≠ d2 := ne_of_none (o := .ins c.net dx [("kept_posts", .ref d1)]) upd_same h2
    have n3 : d1 ≠ d2 := ne_of_none (H := upd (upd H d1 (.dK [])) x (.ins c.net dx [("kept_posts", .ref d1)])) (o := .dK []) (by rw [upd_ne n1.symm]; exact upd_same) h2
    refine ⟨_, rfl, x, c.net, dx, _, rfl, by rw [upd_ne n2]; exact upd_same, O.cn, O.ft, (by show 1 < 1000; decide), ?_⟩
    refine ⟨_, rfl, x, c.net, dx, _, rfl, upd_same, O.cn, O.fn, (by show 2 < 1000; decide), ?_⟩
    have h2' : H d2 = none := by
      rw [upd_ne n2.symm, upd_ne n3.symm] at h2
      exact h2
    refine q d1 d2 _ h1 h2' n3 (fun a o na ha => ?_) upd_same ?_ ?_
    · rw [upd_ne na, upd_ne na, upd_ne (ne_of_none ha h2'), upd_ne na, upd_ne (ne_of_none ha h1)]
      exact ha
    · rw [upd_ne n1.symm, upd_ne n1.symm, upd_ne n3, upd_ne n1.symm]
      exact upd_same
    · rw [upd_ne n2.symm, upd_ne n2.symm]
      exact upd_same
end
end K25
set_option maxRecDepth 100000
namespace K25
open PySem L2
open PyProof.Rows (boot_list boot_int boot_bool boot_tuple boot_str boot_dict boot_all)
structure Xc where
  noName : Addr
  taken : Addr
  oneHouse : Addr
  tooMany : Addr
structure TxtX (K : PySem.W.Frag) (mg : Str → Option Value) (x : Xc) : Prop where
  c_NoName : mg "NoName" = some (.ref x.noName)
  x_NoName : PySem.W.excIn K x.noName mroVE "ValueError.__new__" = true
  c_Taken : mg "Taken" = some (.ref x.taken)
  x_Taken : PySem.W.excIn K x.taken mroVE "ValueError.__new__" = true
  c_OneHouse : mg "OneHouse" = some (.ref x.oneHouse)
  x_OneHouse : PySem.W.excIn K x.oneHouse mroVE "ValueError.__new__" = true
  c_TooMany : mg "TooMany" = some (.ref x.tooMany)
  x_TooMany : PySem.W.excIn K x.tooMany mroVE "ValueError.__new__" = true
def NS.names (S : NS) : List Str := S.posts.map (·.1)
section
variable {P : Program} {w : World} {K : PySem.W.Frag} {mg : Str → Option Value} {base : Heap}
theorem val_some {c : Cl} {H : Hp} {x : Str} : ∀ {kvs : List (Key × V)} {ps : List (Str × Kd)}, Paired (fun (kv : Key × V) p => kv.1 = Sum.inr p.1 ∧ PostAt c H kv.2 p) kvs ps → ((valV kvs (Sum.inr x)).isSome = true ↔ x ∈ ps.map (·.1))
  | _, _, .nil => by simp [valV]
  | kv :: kvs, p :: ps, .cons ⟨e, _⟩ r => by
    by_cases h : p.1 = x
    · rw [valV_pos (by rw [e, h])]
      simp [h]
    · rw [valV_neg (by rw [e]; exact fun z => h (Sum.inr.inj z)), val_some r]
      simp [Ne.symm h]
def sp_cnn (c : Cl) (X : Xc) : Sp := fun vs H Q E => ∃ (n dp dt : Addr) (S : NS) (x : Str), vs = [.ref n, .str x] ∧ NetAt c H n dp dt S ∧ x.length ≤ 1000 ∧
  (isName x = false → ∀ H', Same H H' → E (.ref X.noName) none H') ∧ (isName x = true → x ∈ S.names → ∀ H', Same H H' → E (.ref X.taken) none H') ∧ (isName x = true → ¬ x ∈ S.names → ∀ H', Same H H' → Q .non H')
abbrev s_Net_check_new_name : Stmt := inClass (top 27) 4
theorem sc_Net_check_new_name : FnScope ["self", "name"] ["self", "name"] (defScope s_Net_check_new_name) := ⟨rfl, rfl, rfl, by decide +kernel, rfl, by decide +kernel, by decide +kernel⟩
theorem ok_Net_check_new_name {c : Cl} {X : Xc} {f : Addr} {fd : FuncData} (F : Fun K "check_new_name" "Net.check_new_name" s_Net_check_new_name f fd) (O : Cl.Ok K c) (TX : TxtX K mg X) (D_is_name : Df P w K mg base 1 "is_name" ["name"] sp_is_name) : FnOk P w K mg base (CXE P w) 2 f fd ["self", "name"] (sp_cnn c X) := by
  refine F.okX sc_Net_check_new_name (fun vs H Q E h => ?_) (fun cdv A outer s H vs Q E hr h => ?_)
  · obtain ⟨n, dp, dt, S, x, rfl, _⟩ := h
    rfl
  · obtain ⟨n, dp, dt, S, x, rfl, N, hx, q1, q2, q3⟩ := h
    have ND := sc_Net_check_new_name.nd
    refine ⟨_, (pss_cons (ps_if (pt_not (pt_val (pe_callD D_is_name (hr.mono (by decide)) rfl (pa_cons (pv 1) pa_nil))))
    (pss_one (ps_raise0 rfl made_def rfl TX.c_NoName TX.x_NoName))
    pss_nil)
  (pss_one (ps_if (pt_cmp (pc_din (hu_of hr) (pv 1) (fldK K (pv 0) rfl)))
    (pss_one (ps_raise0 rfl made_def rfl TX.c_Taken TX.x_Taken))
    pss_nil))), ?_⟩
    refine ⟨_, rfl, x, rfl, hx, fun H1 e1 => ⟨_, rfl, ?_⟩⟩
    cases hn : isName x with
    | false => exact iteT (q1 hn H1 e1)
    | true =>
      refine iteF ?_
      obtain ⟨dx, h1⟩ := (N.mono e1).ins
      obtain ⟨kvs, hd, hp⟩ := (N.mono e1).posts
      refine ⟨_, rfl, _, rfl, n, c.net, dx, _, _, rfl, h1, O.cn, O.fp, rfl, dp, _, rfl, DGet.k (k := Sum.inr x) hd, _, rfl, ?_⟩
      have hv := val_some (x := x) hp
      cases hs : (valV kvs (Sum.inr x)).isSome with
      | true => exact iteT (q2 hn (hv.mp hs) H1 e1)
      | false => exact iteF (q3 hn (fun z => by rw [hv.mpr z] at hs; cases hs) H1 e1)
def NS.lis (S : NS) : List Str := (S.posts.filter fun p => rdB p.2).map (·.1)
def sp_listeners (c : Cl) : Sp := fun vs H Q _ => ∃ (n dp dt : Addr) (S : NS), vs = [.ref n] ∧ NetAt c H n dp dt S ∧ S.posts.length ≤ 1000 ∧ ∀ l H', Same H H' → H l = none → H' l = some (.lst (S.lis.map V.str)) → Q (.ref l) H'
abbrev s_Net_listeners : Stmt := inClass (top 27) 12
theorem sc_Net_listeners : FnScope ["self"] ["self"] (defScope s_Net_listeners) := ⟨rfl, rfl, rfl, by decide +kernel, rfl, by decide +kernel, by decide +kernel⟩
theorem ok_Net_listeners {c : Cl} {f : Addr} {fd : FuncData} (F : Fun K "listeners" "Net.listeners" s_Net_listeners f fd) (O : Cl.Ok K c) (D_reads : ∀ C, IsPost c C → Dm P w K mg base 1 C "reads" ["self"] (sp_readsC c C)) : FnOk P w K mg base CX0 2 f fd ["self"] (sp_listeners c) := by
  refine F.ok sc_Net_listeners (fun vs H Q E h => ?_) (fun cdv A outer s H vs Q E hr h => ?_)
  · obtain ⟨n, dp, dt, S, rfl, _⟩ := h
    rfl
  · obtain ⟨n, dp, dt, S, rfl, N, hz, q⟩ := h
    refine ⟨_, (pss_one (ps_ret (pe_compD rfl (compScope_of (nT := 1) (js := []) (N' := ["post"]) rfl rfl (by kernel_rfl)) (pi_vals (fldK K (pv 0) rfl))
    (fun _ _ _ _ _ => (pg_name (i := 0) (show List.Nodup (["post"] : List Str) by decide +kernel) rfl (by first | exact Or.inl rfl | exact Or.inr rfl)))
    (fun _ _ _ _ _ => (pif_one (pt_val (pe_meth0C (pv 0) D_reads (hr.mono (by decide))))))
    (fun _ _ _ _ _ => (fldK K (pv 0) rfl))))), ?_⟩
    obtain ⟨dx, h1⟩ := N.ins
    obtain ⟨kvs, hd, hp⟩ := N.posts
    have hl := Paired.length hp
    refine ⟨_, rfl, n, c.net, dx, _, _, rfl, h1, O.cn, O.fp, rfl, dp, kvs, rfl, hd, fun o M hM => ?_⟩
    rw [itv_eq]
    refine compG_dict (fun i => rdB (S.posts.getD i ("", .post)).2) (fun i => .str (S.posts.getD i ("", .post)).1) upd_same (by omega) (fun i kv H2 ek e2 => ?_) (fun l H' h0 e' hl' => ?_)
    · obtain ⟨p, ep, _, a, dxa, ea, ha⟩ := Paired.at hp ek
      have gd : S.posts.getD i ("", .post) = p := by rw [List.getD_eq_getElem?_getD, ep]; rfl
      have ha2 : H2 a = some (.ins (c.of p.2) dxa [("name", .str p.1)]) := e2 _ _ (by rw [upd_ne (ne_of ha hd (fun z => nomatch z))]; exact ha)
      rw [gd]
      refine ⟨_, rfl, a, c.of p.2, dxa, _, ea, ⟨_, rfl⟩, ha2, rfl, _, rfl, _, rfl, ?_⟩
      rw [reads_of O]
      refine ite2 (fun h => ?_) (fun h => ⟨by simpa using h, Same.refl _⟩)
      exact ⟨_, rfl, a, c.of p.2, dxa, _, _, ea, ha2, O.cls _, O.nam _, rfl, h, rfl, Same.refl _⟩
    · refine ⟨dp, o, kvs, hM, e' _ _ upd_same, q l _ (same_thaw hd e') ?_ ?_⟩
      · have nl : l ≠ dp := fun z => by rw [z, upd_same] at h0; cases h0
        rw [upd_ne nl] at h0
        exact h0
      · have nl : l ≠ dp := fun z => by rw [z, upd_same] at h0; cases h0
        rw [upd_ne nl, hl', hl]
        congr 2
        rw [range_filter_map S.posts (fun p => rdB p.2) (fun p => V.str p.1) _ _ fun i p ep => by
          have gd : S.posts.getD i ("", .post) = p := by rw [List.getD_eq_getElem?_getD, ep]; rfl
          rw [gd]; exact ⟨rfl, rfl⟩]
        unfold NS.lis
        rw [List.map_map]
        rfl
def NS.home (S : NS) : Option (Str × Kd) := S.posts.find? fun p => !hrB p.2
def homeV : Option (Str × Kd) → V
  | none => .non
  | some p => .str p.1
def sp_home (c : Cl) : Sp := fun vs H Q _ => ∃ (n dp dt : Addr) (S : NS), vs = [.ref n] ∧ NetAt c H n dp dt S ∧ Q (homeV S.home) H
abbrev s_Net_home : Stmt := inClass (top 27) 13
theorem sc_Net_home : FnScope ["self", "post"] ["self"] (defScope s_Net_home) := ⟨rfl, rfl, rfl, by decide +kernel, rfl, by decide +kernel, by decide +kernel⟩
theorem ok_Net_home {c : Cl} {f : Addr} {fd : FuncData} (F : Fun K "home" "Net.home" s_Net_home f fd) (O : Cl.Ok K c) (D_hears : ∀ C, IsPost c C → Dm P w K mg base 1 C "hears" ["self"] (sp_hearsC c C)) : FnOk P w K mg base CX0 2 f fd ["self"] (sp_home c) := by
  refine F.ok sc_Net_home (fun vs H Q E h => ?_) (fun cdv A outer s H vs Q E hr h => ?_)
  · obtain ⟨n, dp, dt, S, rfl, _⟩ := h
    rfl
  · obtain ⟨n, dp, dt, S, rfl, N, q⟩ := h
    have ND := sc_Net_home.nd
    refine ⟨_, (pss_cons (ps_forD PassesOwn.never rfl (pi_vals (fldK K (pv 0) rfl)) (pg_name (i := 1) ND rfl (by first | exact Or.inl rfl | exact Or.inr rfl))
    (pss_one (ps_if (pt_not (pt_val (pe_meth0C (pv 1) D_hears (hr.mono (by decide)))))
    (pss_one (ps_ret (fldK K (pv 1) rfl)))
    pss_nil)))
  (pss_one (ps_ret pe_non))), ?_⟩
    obtain ⟨dx, h1⟩ := N.ins
    obtain ⟨kvs, hd, hp⟩ := N.posts
    have hl := Paired.length hp
    refine ⟨_, rfl, n, c.net, dx, _, _, rfl, h1, O.cn, O.fp, rfl, dp, kvs, rfl, hd, fun o M hM => ?_⟩
    rw [itv_eq]
    refine for_dict (kvs := kvs) (fun i σ H2 => ∃ ov, σ = [some (.ref n), ov] ∧ H2 = upd H dp (.frz o (.dK kvs)) ∧ ∀ p ∈ S.posts.take i, hrB p.2 = true) ⟨none, rfl, rfl, by simp⟩ (fun i σ H2 _ ⟨_, _, e, _⟩ => by rw [e]; exact upd_same) (fun i kv σ H2 ek ⟨ov, es, e, hh⟩ => ?_) (fun σ H2 ⟨ov, es, e, hh⟩ => ?_)
    · subst es e
      obtain ⟨p, ep, _, a, dxa, ea, ha⟩ := Paired.at hp ek
      have ha2 : upd H dp (.frz o (.dK kvs)) a = some (.ins (c.of p.2) dxa [("name", .str p.1)]) := by rw [upd_ne (ne_of ha hd (fun z => nomatch z))]; exact ha
      refine ⟨_, rfl, a, c.of p.2, dxa, _, ea, ⟨_, rfl⟩, ha2, rfl, _, rfl, _, rfl, ?_⟩
      rw [hears_of O]
      cases hb : hrB p.2 with
      | false =>
        refine iteT ⟨_, rfl, a, c.of p.2, dxa, _, _, ea, ha2, O.cls _, O.nam _, rfl, dp, o, kvs, hM, upd_same, ?_⟩
        have : S.home = some p := by
          unfold NS.home
          rw [List.find?_eq_some_iff_getElem]
          obtain ⟨hi, e2⟩ := List.getElem?_eq_some_iff.mp ep
          refine ⟨by rw [hb]; rfl, i, hi, e2, fun j hj => ?_⟩
          rw [hh _ (List.mem_take_iff_getElem.mpr ⟨j, by omega, rfl⟩)]
          rfl
        rw [this] at q
        rw [thaw_same hd]
        exact q
      | true =>
        refine iteF ⟨_, rfl, rfl, fun p' hp' => ?_⟩
        rw [List.take_add_one, ep] at hp'
        rcases List.mem_append.mp hp' with z | z
        · exact hh p' z
        · have : p' = p := by simpa using z
          rw [this]; exact hb
    · subst es e
      refine ⟨dp, o, kvs, hM, upd_same, ?_⟩
      have : S.home = none := by
        unfold NS.home
        rw [List.find?_eq_none]
        intro p hpm
        rw [hl, List.take_length] at hh
        rw [hh p hpm]
        simp
      rw [this] at q
      rw [thaw_same hd]
      exact q
end
end K25
set_option maxRecDepth 100000
namespace K25
open PySem L2
open PyProof.Rows (boot_list boot_int boot_bool boot_tuple boot_str boot_dict boot_all)
def But (d : Addr) (H H' : Hp) : Prop := ∀ a o, a ≠ d → H a = some o → H' a = some o
theorem But.of {d : Addr} {H H' : Hp} (e : Same H H') : But d H H' := fun a o _ h => e a o h
theorem But.trans {d : Addr} {H H1 H2 : Hp} (a : But d H H1) (b : But d H1 H2) : But d H H2 := fun c o n h => b c o n (a c o n h)
def NS.put (S : NS) (x : Str) (k : Kd) : NS := { S with posts := S.posts ++ [(x, k)] }
theorem NetAt.put {c : Cl} {H H' : Hp} {n dp dt a : Addr} {S : NS} {p : Str × Kd} {kvs : List (Key × V)} (N : NetAt c H n dp dt S) (hd : H dp = some (.dK kvs)) (hp : Paired (fun (kv : Key × V) p => kv.1 = Sum.inr p.1 ∧ PostAt c H kv.2 p) kvs S.posts) (pa : PostAt c H (.ref a) p) (e : But dp H H')
    (hd' : H' dp = some (.dK (kvs ++ [(Sum.inr p.1, .ref a)]))) : NetAt c H' n dp dt (S.put p.1 p.2) := by
  obtain ⟨⟨dx, h1⟩, _, ⟨kt, h3, p3⟩, h4⟩ := N
  have keepP : ∀ {v : V} {q : Str × Kd}, PostAt c H v q → PostAt c H' v q := fun ⟨b, dxb, eb, hb⟩ => ⟨b, dxb, eb, e _ _ (ne_of hb hd (fun z => nomatch z)) hb⟩
  have keepT : ∀ {v : V} {t : Tie}, TieAt H v t → TieAt H' v t := fun ⟨b, eb, hb⟩ => ⟨b, eb, e _ _ (ne_of hb hd (fun z => nomatch z)) hb⟩
  exact ⟨⟨dx, e _ _ (ne_of h1 hd (fun z => nomatch z)) h1⟩, ⟨_, hd', Paired.snoc' (Paired.mapP hp fun _ _ ⟨x, y⟩ => ⟨x, keepP y⟩) ⟨rfl, keepP pa⟩⟩, ⟨kt, e _ _ (Ne.symm h4) h3, Paired.mapP p3 fun _ _ ⟨x, y⟩ => ⟨x, keepT y⟩⟩, h4⟩
section
variable {P : Program} {w : World} {K : PySem.W.Frag} {mg : Str → Option Value} {base : Heap}
def full (S : NS) (k : Kd) : Bool := decide (20 ≤ S.posts.length) || (rdB k && decide (8 ≤ S.lis.length))
def sp_put_in (c : Cl) (X : Xc) : Sp := fun vs H Q E => ∃ (n dp dt a : Addr) (S : NS) (p : Str × Kd), vs = [.ref n, .ref a] ∧ NetAt c H n dp dt S ∧ PostAt c H (.ref a) p ∧ ¬ p.1 ∈ S.names ∧ S.posts.length ≤ 1000 ∧
  (full S p.2 = true → ∀ H', Same H H' → E (.ref X.tooMany) none H') ∧ (full S p.2 = false → ∀ H', But dp H H' → NetAt c H' n dp dt (S.put p.1 p.2) → Q .non H')
abbrev s_Net_put_in : Stmt := inClass (top 27) 5
theorem sc_Net_put_in : FnScope ["self", "post"] ["self", "post"] (defScope s_Net_put_in) := ⟨rfl, rfl, rfl, by decide +kernel, rfl, by decide +kernel, by decide +kernel⟩
theorem ok_Net_put_in {c : Cl} {X : Xc} {f : Addr} {fd : FuncData} (F : Fun K "put_in" "Net.put_in" s_Net_put_in f fd) (O : Cl.Ok K c) (T : TxtL mg) (TG : TxtG mg) (TX : TxtX K mg X) (D_reads : ∀ C, IsPost c C → Dm P w K mg base 1 C "reads" ["self"] (sp_readsC c C))
    (D_Net_listeners : Dm P w K mg base 2 c.net "listeners" ["self"] (sp_listeners c)) : FnOk P w K mg base (CXE P w) 3 f fd ["self", "post"] (sp_put_in c X) := by
  obtain ⟨tl, hg_MOST_POSTS⟩ := TG.mop
  obtain ⟨tn, hg_MOST_LISTENERS⟩ := TG.mol
  refine F.okX sc_Net_put_in (fun vs H Q E h => ?_) (fun cdv A outer s H vs Q E hr h => ?_)
  · obtain ⟨n, dp, dt, a, S, p, rfl, _⟩ := h
    rfl
  · obtain ⟨n, dp, dt, a, S, p, rfl, N, pa, hnew, hz, q1, q2⟩ := h
    have ND := sc_Net_put_in.nd
    obtain ⟨dx, h1⟩ := id N.ins
    obtain ⟨kvs, hd, hp⟩ := id N.posts
    obtain ⟨a', dxa, ea, ha⟩ := id pa
    cases ea
    have hl := Paired.length hp
    refine ⟨_, (pss_cons (ps_if (pt_cmpR op_ge (pe_callB call_len_dK rfl T.n_len boot_len (pa_cons (fldK K (pv 0) rfl) pa_nil)) (pe_glob (v := .int 20) rfl hg_MOST_POSTS ⟨_, rfl⟩) (nomark _))
    (pss_one (ps_raise0 rfl made_def rfl TX.c_TooMany TX.x_TooMany))
    pss_nil)
  (pss_cons (ps_if (PW.pt (pw_and (pt_val (pe_meth0C (pv 1) D_reads (hr.mono (by decide)))) (pw_and1 (pt_cmpR op_ge (pe_callB (lenK K) rfl T.n_len boot_len (pa_cons (pe_meth0D (pv 0) D_Net_listeners (hr.mono (by decide))) pa_nil)) (pe_glob (v := .int 8) rfl hg_MOST_LISTENERS ⟨_, rfl⟩) (nomark _)))))
    (pss_one (ps_raise0 rfl made_def rfl TX.c_TooMany TX.x_TooMany))
    pss_nil)
  (pss_one (ps_dput (hu_of hr) (fldK K (pv 0) rfl) (fldK K (pv 1) rfl) (pv 1) rfl)))), ?_⟩
    have store : ∀ H1, Same H H1 → full S p.2 = false → ∃ a_1 H4, V.ref dp = V.ref a_1 ∧ DPut H1 a_1 (.str p.1) (.ref a) H4 ∧ Q .non H4 := fun H1 e1 hf => by
      have hv : valV kvs (Sum.inr p.1) = none := by
        cases hs : valV kvs (Sum.inr p.1) with
        | none => rfl
        | some v => exact absurd ((val_some (x := p.1) hp).mp (by rw [hs]; rfl)) hnew
      refine ⟨dp, _, rfl, DPut.k (k := Sum.inr p.1) (e1 _ _ hd) (by show kvs.length < 2 ^ 24; omega), ?_⟩
      have b1 : But dp H (upd H1 dp (.dK (putK kvs (Sum.inr p.1) (.ref a)))) := fun b o nb hb => by rw [upd_ne nb]; exact e1 _ _ hb
      exact q2 hf _ b1 (N.put hd hp pa b1 (by rw [upd_same, putK_new _ hv]))
    refine ⟨_, rfl, n, c.net, dx, _, _, rfl, h1, O.cn, O.fp, rfl, dp, kvs, rfl, hd, _, _, rfl, rfl, _, rfl, ite2 (fun g1 => ?_) (fun g1 => ?_)⟩
    · have g1 : 20 ≤ S.posts.length := by have := of_decide_eq_true g1; omega
      exact q1 (by unfold full; rw [decide_eq_true g1]; rfl) H (Same.refl _)
    · have g1 : ¬ 20 ≤ S.posts.length := fun z => g1 (decide_eq_true (by omega))
      refine ⟨_, rfl, a, c.of p.2, dxa, _, rfl, ⟨_, rfl⟩, ha, rfl, _, rfl, _, rfl, ?_⟩
      rw [reads_of O]
      cases hb : rdB p.2 with
      | false =>
        refine iteF (iteF ?_)
        refine ⟨_, rfl, _, rfl, n, c.net, dx, _, _, rfl, h1, O.cn, O.fp, rfl, _, rfl, a, c.of p.2, dxa, _, _, rfl, ha, O.cls _, O.nam _, rfl, ?_⟩
        exact store H (Same.refl _) (by unfold full; rw [decide_eq_false g1, hb]; rfl)
      | true =>
        refine iteT ⟨_, rfl, n, dx, _, rfl, h1, rfl, n, dp, dt, S, rfl, N, hz, fun l H1 e1 h0 hl1 => ?_⟩
        refine ⟨l, _, rfl, .inl (SqL.of hl1), _, _, rfl, rfl, _, rfl, ite2 (fun g2 => ?_) (fun g2 => ?_)⟩
        · have g2 : 8 ≤ S.lis.length := by have := of_decide_eq_true g2; rw [List.length_map] at this; omega
          exact q1 (by unfold full; rw [hb, decide_eq_true g2, Bool.and_self, Bool.or_true]) H1 e1
        · have g2 : ¬ 8 ≤ S.lis.length := fun z => g2 (decide_eq_true (by rw [List.length_map]; omega))
          refine ⟨_, rfl, _, rfl, n, c.net, dx, _, _, rfl, e1 _ _ h1, O.cn, O.fp, rfl, _, rfl, a, c.of p.2, dxa, _, _, rfl, e1 _ _ ha, O.cls _, O.nam _, rfl, ?_⟩
          exact store H1 e1 (by unfold full; rw [decide_eq_false g1, decide_eq_false g2, Bool.and_false]; rfl)
def due (X : Xc) (S : NS) (x : Str) (k : Kd) : Option Addr :=
  if isName x = false then some X.noName else if x ∈ S.names then some X.taken else if hrB k = false ∧ S.home.isSome = true then some X.oneHouse else if full S k = true then some X.tooMany else none
def sp_new (c : Cl) (X : Xc) (k : Kd) : Sp := fun vs H Q E => ∃ (n dp dt : Addr) (S : NS) (x : Str), vs = [.ref n, .str x] ∧ NetAt c H n dp dt S ∧ x.length ≤ 1000 ∧ S.posts.length ≤ 1000 ∧
  (∀ r, due X S x k = some r → ∀ H', Same H H' → E (.ref r) none H') ∧ (due X S x k = none → ∀ H', But dp H H' → NetAt c H' n dp dt (S.put x k) → Q .non H')
theorem made {c : Cl} {X : Xc} {H : Hp} {n dp dt : Addr} {S : NS} {x : Str} {k : Kd} {Q : VK} {E : XK} (N : NetAt c H n dp dt S) (hz : S.posts.length ≤ 1000) (hi : isName x = true) (hx : ¬ x ∈ S.names) (hh : ¬ (hrB k = false ∧ S.home.isSome = true))
    (q1 : ∀ r, due X S x k = some r → ∀ H', Same H H' → E (.ref r) none H') (q2 : due X S x k = none → ∀ H', But dp H H' → NetAt c H' n dp dt (S.put x k) → Q .non H') (y dy : Addr) (ny : H y = none) (ndy : H dy = none) (ne : dy ≠ y) :
    sp_put_in c X [.ref n, .ref y] (upd (upd (upd H dy (.own y)) y (.ins (c.of k) dy [])) y (.ins (c.of k) dy [("name", .str x)])) Q E := by
  have e1 : Same H (upd (upd (upd H dy (.own y)) y (.ins (c.of k) dy [])) y (.ins (c.of k) dy [("name", .str x)])) := same_new (same_new (same_upd (Same.refl _) ndy) ny) ny
  have du : due X S x k = if full S k = true then some X.tooMany else none := by
    unfold due
    rw [if_neg (by rw [hi]; exact fun z => nomatch z), if_neg hx, if_neg hh]
  refine ⟨n, dp, dt, y, S, (x, k), rfl, N.mono e1, ⟨y, dy, rfl, upd_same⟩, hx, hz, fun hf H' e' => q1 _ (by rw [du, if_pos hf]) H' (e1.trans e'), fun hf H' b' N' => q2 (by rw [du, if_neg (by rw [hf]; exact fun z => nomatch z)]) H' ((But.of e1).trans b') N'⟩
abbrev s_Net_post : Stmt := inClass (top 27) 2
theorem sc_Net_post : FnScope ["self", "name"] ["self", "name"] (defScope s_Net_post) := ⟨rfl, rfl, rfl, by decide +kernel, rfl, by decide +kernel, by decide +kernel⟩
theorem ok_Net_post {c : Cl} {X : Xc} {f : Addr} {fd : FuncData} (F : Fun K "post" "Net.post" s_Net_post f fd) (O : Cl.Ok K c) (D_Net_check_new_name : DmX P w K mg base 2 c.net "check_new_name" ["self", "name"] (sp_cnn c X)) (D_Net_put_in : DmX P w K mg base 3 c.net "put_in" ["self", "post"] (sp_put_in c X))
    (D_Post : Dk P w K mg base 1 "Post" c.post ["self", "name"] (sp_pinit c)) : FnOk P w K mg base (CXE P w) 4 f fd ["self", "name"] (sp_new c X .post) := by
  refine F.okX sc_Net_post (fun vs H Q E h => ?_) (fun cdv A outer s H vs Q E hr h => ?_)
  · obtain ⟨n, dp, dt, S, x, rfl, _⟩ := h
    rfl
  · obtain ⟨n, dp, dt, S, x, rfl, N, hx, hz, q1, q2⟩ := h
    obtain ⟨dx, h1⟩ := id N.ins
    refine ⟨_, (pss_cons (ps_expr (pe_methX on_def (pv 0) D_Net_check_new_name (hr.mono (by decide)) (pa_cons (pv 1) pa_nil)))
  (pss_one (ps_expr (pe_methX on_def (pv 0) D_Net_put_in (hr.mono (by decide)) (pa_cons (pe_makeD D_Post (hr.mono (by decide)) rfl (pa_cons (pv 1) pa_nil)) pa_nil))))), ?_⟩
    refine ⟨_, rfl, n, dx, _, rfl, h1, rfl, _, rfl, n, dp, dt, S, x, rfl, N, hx, fun hi H' e => q1 _ (by unfold due; rw [if_pos hi]) H' e, fun hi ht H' e => q1 _ (by unfold due; rw [if_neg (by rw [hi]; exact fun z => nomatch z), if_pos ht]) H' e, fun hi ht H1 e1 => ?_⟩
    refine ⟨_, rfl, n, dx, _, rfl, e1 _ _ h1, rfl, _, rfl, fun y dy ny ndy ne => ⟨y, .post, dy, x, rfl, upd_same, rfl, ?_⟩⟩
    exact made (N.mono e1) hz hi ht (fun z => absurd z.1 (by decide)) (fun r hr' H' e' => q1 r hr' H' (e1.trans e')) (fun hn H' b' N' => q2 hn H' ((But.of e1).trans b') N') y dy ny ndy ne
abbrev s_Net_listener : Stmt := inClass (top 27) 3
theorem sc_Net_listener : FnScope ["self", "name"] ["self", "name"] (defScope s_Net_listener) := ⟨rfl, rfl, rfl, by decide +kernel, rfl, by decide +kernel, by decide +kernel⟩
theorem ok_Net_listener {c : Cl} {X : Xc} {f : Addr} {fd : FuncData} (F : Fun K "listener" "Net.listener" s_Net_listener f fd) (O : Cl.Ok K c) (D_Net_check_new_name : DmX P w K mg base 2 c.net "check_new_name" ["self", "name"] (sp_cnn c X)) (D_Net_put_in : DmX P w K mg base 3 c.net "put_in" ["self", "post"] (sp_put_in c X))
    (D_Listener : Dk P w K mg base 1 "Listener" c.lstn ["self", "name"] (sp_pinit c)) : FnOk P w K mg base (CXE P w) 4 f fd ["self", "name"] (sp_new c X .listener) := by
  refine F.okX sc_Net_listener (fun vs H Q E h => ?_) (fun cdv A outer s H vs Q E hr h => ?_)
  · obtain ⟨n, dp, dt, S, x, rfl, _⟩ := h
    rfl
  · obtain ⟨n, dp, dt, S, x, rfl, N, hx, hz, q1, q2⟩ := h
    obtain ⟨dx, h1⟩ := id N.ins
    refine ⟨_, (pss_cons (ps_expr (pe_methX on_def (pv 0) D_Net_check_new_name (hr.mono (by decide)) (pa_cons (pv 1) pa_nil)))
  (pss_one (ps_expr (pe_methX on_def (pv 0) D_Net_put_in (hr.mono (by decide)) (pa_cons (pe_makeD D_Listener (hr.mono (by decide)) rfl (pa_cons (pv 1) pa_nil)) pa_nil))))), ?_⟩
    refine ⟨_, rfl, n, dx, _, rfl, h1, rfl, _, rfl, n, dp, dt, S, x, rfl, N, hx, fun hi H' e => q1 _ (by unfold due; rw [if_pos hi]) H' e, fun hi ht H' e => q1 _ (by unfold due; rw [if_neg (by rw [hi]; exact fun z => nomatch z), if_pos ht]) H' e, fun hi ht H1 e1 => ?_⟩
    refine ⟨_, rfl, n, dx, _, rfl, e1 _ _ h1, rfl, _, rfl, fun y dy ny ndy ne => ⟨y, .listener, dy, x, rfl, upd_same, rfl, ?_⟩⟩
    exact made (N.mono e1) hz hi ht (fun z => absurd z.1 (by decide)) (fun r hr' H' e' => q1 r hr' H' (e1.trans e')) (fun hn H' b' N' => q2 hn H' ((But.of e1).trans b') N') y dy ny ndy ne
abbrev s_Net_house : Stmt := inClass (top 27) 1
theorem sc_Net_house : FnScope ["self", "name"] ["self", "name"] (defScope s_Net_house) := ⟨rfl, rfl, rfl, by decide +kernel, rfl, by decide +kernel, by decide +kernel⟩
theorem ok_Net_house {c : Cl} {X : Xc} {f : Addr} {fd : FuncData} (F : Fun K "house" "Net.house" s_Net_house f fd) (O : Cl.Ok K c) (TX : TxtX K mg X) (D_Net_check_new_name : DmX P w K mg base 2 c.net "check_new_name" ["self", "name"] (sp_cnn c X)) (D_Net_put_in : DmX P w K mg base 3 c.net "put_in" ["self", "post"] (sp_put_in c X))
    (D_Net_home : Dm P w K mg base 2 c.net "home" ["self"] (sp_home c)) (D_House : Dk P w K mg base 1 "House" c.house ["self", "name"] (sp_pinit c)) : FnOk P w K mg base (CXE P w) 4 f fd ["self", "name"] (sp_new c X .house) := by
  refine F.okX sc_Net_house (fun vs H Q E h => ?_) (fun cdv A outer s H vs Q E hr h => ?_)
  · obtain ⟨n, dp, dt, S, x, rfl, _⟩ := h
    rfl
  · obtain ⟨n, dp, dt, S, x, rfl, N, hx, hz, q1, q2⟩ := h
    obtain ⟨dx, h1⟩ := id N.ins
    refine ⟨_, (pss_cons (ps_expr (pe_methX on_def (pv 0) D_Net_check_new_name (hr.mono (by decide)) (pa_cons (pv 1) pa_nil)))
  (pss_cons (ps_if (pt_cmpR op_notN (pe_meth0D (pv 0) D_Net_home (hr.mono (by decide))) pe_non (nomark _))
    (pss_one (ps_raise0 rfl made_def rfl TX.c_OneHouse TX.x_OneHouse))
    pss_nil)
  (pss_one (ps_expr (pe_methX on_def (pv 0) D_Net_put_in (hr.mono (by decide)) (pa_cons (pe_makeD D_House (hr.mono (by decide)) rfl (pa_cons (pv 1) pa_nil)) pa_nil)))))), ?_⟩
    refine ⟨_, rfl, n, dx, _, rfl, h1, rfl, _, rfl, n, dp, dt, S, x, rfl, N, hx, fun hi H' e => q1 _ (by unfold due; rw [if_pos hi]) H' e, fun hi ht H' e => q1 _ (by unfold due; rw [if_neg (by rw [hi]; exact fun z => nomatch z), if_pos ht]) H' e, fun hi ht H1 e1 => ?_⟩
    refine ⟨_, rfl, n, dx, _, rfl, e1 _ _ h1, rfl, n, dp, dt, S, rfl, N.mono e1, rfl, _, rfl, ?_⟩
    cases hs : S.home with
    | some p =>
      refine iteNN (fun z => nomatch z) (q1 _ ?_ H1 e1)
      unfold due
      rw [if_neg (by rw [hi]; exact fun z => nomatch z), if_neg ht, if_pos ⟨rfl, by rw [hs]; rfl⟩]
    | none =>
      refine iteNS rfl ?_
      refine ⟨_, rfl, n, dx, _, rfl, e1 _ _ h1, rfl, _, rfl, fun y dy ny ndy ne => ⟨y, .house, dy, x, rfl, upd_same, rfl, ?_⟩⟩
      exact made (N.mono e1) hz hi ht (fun z => by rw [hs] at z; cases z.2) (fun r hr' H' e' => q1 r hr' H' (e1.trans e')) (fun hn H' b' N' => q2 hn H' ((But.of e1).trans b') N') y dy ny ndy ne
end
end K25
set_option maxRecDepth 100000
namespace K25
open PySem L2
open PyProof.Rows (boot_list boot_int boot_bool boot_tuple boot_str boot_dict boot_all)
structure TxtN (mg : Str → Option Value) : Prop where
  n_isinstance : mg "isinstance" = none
  n_int : mg "int" = none
  n_bool : mg "bool" = none
  n_len : mg "len" = none
structure TxtH (mg : Str → Option Value) : Prop where
  mot : ∃ t, mg "MOST_TIES" = some (.int 40 t)
  lod : ∃ t, mg "LONGEST_DELAY" = some (.int 99 t)
structure TxtI (K : PySem.W.Frag) : Prop where
  ii : PySem.W.kitOne K (.type "int") (.type "int") = some true
  ib : PySem.W.kitOne K (.type "int") (.type "bool") = some false
section
variable {P : Program} {w : World} {K : PySem.W.Frag} {mg : Str → Option Value} {base : Heap}
def sp_is_whole : Sp := fun vs H Q _ => ∃ i : Int, vs = [.int i] ∧ Q (.bl true) H
abbrev s_is_whole : Stmt := top 21
theorem sc_is_whole : FnScope ["number"] ["number"] (defScope s_is_whole) := ⟨rfl, rfl, rfl, by decide +kernel, rfl, by decide +kernel, by decide +kernel⟩
theorem ok_is_whole {f : Addr} {fd : FuncData} (F : Fun K "is_whole" "is_whole" s_is_whole f fd) (T : TxtN mg) (TI : TxtI K) : FnOk P w K mg base CX0 1 f fd ["number"] sp_is_whole := by
  refine F.ok sc_is_whole (fun vs H Q E h => ?_) (fun cdv A outer s H vs Q E hr h => ?_)
  · obtain ⟨i, rfl, _⟩ := h
    rfl
  · obtain ⟨i, rfl, q⟩ := h
    refine ⟨_, (pss_one (ps_ret (pe_and (pe_callB (isiK K) rfl T.n_isinstance boot_isinstance (pa_cons (pv 0) (pa_cons (pe_bltn (v := .ty "int") rfl T.n_int boot_int rfl) pa_nil))) (pe_one (pe_not (pe_callB (isiK K) rfl T.n_isinstance boot_isinstance (pa_cons (pv 0) (pa_cons (pe_bltn (v := .ty "bool") rfl T.n_bool boot_bool rfl) pa_nil)))))))), ?_⟩
    exact ⟨_, rfl, .int i, _, _, _, rfl, .int i, TI.ii, _, rfl, iteT ⟨_, rfl, .int i, _, _, _, rfl, .int i, TI.ib, _, rfl, q⟩⟩
def isDelay (i : Int) : Bool := decide (1 ≤ i) && decide (i ≤ 99)
def sp_is_delay : Sp := fun vs H Q _ => ∃ i : Int, vs = [.int i] ∧ Q (.bl (isDelay i)) H
abbrev s_is_delay : Stmt := top 22
theorem sc_is_delay : FnScope ["number"] ["number"] (defScope s_is_delay) := ⟨rfl, rfl, rfl, by decide +kernel, rfl, by decide +kernel, by decide +kernel⟩
theorem ok_is_delay {f : Addr} {fd : FuncData} (F : Fun K "is_delay" "is_delay" s_is_delay f fd) (TH : TxtH mg) (D_is_whole : Df P w K mg base 1 "is_whole" ["number"] sp_is_whole) : FnOk P w K mg base CX0 2 f fd ["number"] sp_is_delay := by
  obtain ⟨tl, hg_LONGEST_DELAY⟩ := TH.lod
  refine F.ok sc_is_delay (fun vs H Q E h => ?_) (fun cdv A outer s H vs Q E hr h => ?_)
  · obtain ⟨i, rfl, _⟩ := h
    rfl
  · obtain ⟨i, rfl, q⟩ := h
    refine ⟨_, (pss_one (ps_ret (pe_and (pe_callD D_is_whole (hr.mono (by decide)) rfl (pa_cons (pv 0) pa_nil)) (pe_one (pe_chain op_le op_le pe_int (pv 0) (pe_glob (v := .int 99) rfl hg_LONGEST_DELAY ⟨_, rfl⟩)))))), ?_⟩
    refine ⟨_, rfl, i, rfl, _, rfl, iteT ⟨_, rfl, _, _, rfl, rfl, _, rfl, ite2 (fun h1 => ⟨_, _, rfl, rfl, ?_⟩) (fun h1 => ?_)⟩⟩
    · have h1 : 1 ≤ i := of_decide_eq_true h1
      unfold isDelay at q
      rw [decide_eq_true h1, Bool.true_and] at q
      exact q
    · have h1 : ¬ 1 ≤ i := fun z => h1 (decide_eq_true z)
      unfold isDelay at q
      rw [decide_eq_false h1, Bool.false_and] at q
      exact q
def TiesAt (H : Hp) (l : Addr) (ts : List Tie) : Prop := ∃ xs, H l = some (.lst xs) ∧ Paired (TieAt H) xs ts
theorem TiesAt.mono {H H' : Hp} {l : Addr} {ts : List Tie} (e : Same H H') (h : TiesAt H l ts) : TiesAt H' l ts := let ⟨xs, q1, q2⟩ := h; ⟨xs, e _ _ q1, Paired.mapP q2 fun _ _ z => z.mono e⟩
theorem paired_of {F : V → Tie → Prop} : ∀ {vs : List V} {ts : List Tie}, vs.length = ts.length → (∀ (i : Nat) v t, vs[i]? = some v → ts[i]? = some t → F v t) → Paired F vs ts
  | [], [], _, _ => .nil
  | v :: vs, t :: ts, h, k => .cons (k 0 v t rfl rfl) (paired_of (by simpa using h) fun i v' t' h1 h2 => k (i + 1) v' t' (by simpa using h1) (by simpa using h2))
  | [], _ :: _, h, _ => by cases h
  | _ :: _, [], h, _ => by cases h
def sp_ties (c : Cl) : Sp := fun vs H Q _ => ∃ (n dp dt : Addr) (S : NS), vs = [.ref n] ∧ NetAt c H n dp dt S ∧ S.ties.length ≤ 1000 ∧ ∀ l H', Same H H' → H l = none → TiesAt H' l S.ties → Q (.ref l) H'
abbrev s_Net_ties : Stmt := inClass (top 27) 14
theorem sc_Net_ties : FnScope ["self"] ["self"] (defScope s_Net_ties) := ⟨rfl, rfl, rfl, by decide +kernel, rfl, by decide +kernel, by decide +kernel⟩
theorem ok_Net_ties {c : Cl} {f : Addr} {fd : FuncData} (F : Fun K "ties" "Net.ties" s_Net_ties f fd) (O : Cl.Ok K c) : FnOk P w K mg base CX0 1 f fd ["self"] (sp_ties c) := by
  refine F.ok sc_Net_ties (fun vs H Q E h => ?_) (fun cdv A outer s H vs Q E hr h => ?_)
  · obtain ⟨n, dp, dt, S, rfl, _⟩ := h
    rfl
  · obtain ⟨n, dp, dt, S, rfl, N, hz, q⟩ := h
    refine ⟨_, (pss_one (ps_ret (pe_compD rfl (compScope_of (nT := 4) (js := []) (N' := ["number", "one", "other", "delay"]) rfl rfl (by kernel_rfl)) (pi_vals (fldK K (pv 0) rfl))
    (fun _ _ _ _ _ => (pgtK K (n := 4) rfl (pgs_cons (pg_name (i := 0) (show List.Nodup (["number", "one", "other", "delay"] : List Str) by decide +kernel) rfl (by first | exact Or.inl rfl | exact Or.inr rfl)) (pgs_cons (pg_name (i := 1) (show List.Nodup (["number", "one", "other", "delay"] : List Str) by decide +kernel) rfl (by first | exact Or.inl rfl | exact Or.inr rfl)) (pgs_cons (pg_name (i := 2) (show List.Nodup (["number", "one", "other", "delay"] : List Str) by decide +kernel) rfl (by first | exact Or.inl rfl | exact Or.inr rfl)) (pgs_cons (pg_name (i := 3) (show List.Nodup (["number", "one", "other", "delay"] : List Str) by decide +kernel) rfl (by first | exact Or.inl rfl | exact Or.inr rfl)) pgs_nil))))))
    (fun _ _ _ _ _ => pif_nil)
    (fun _ _ _ _ _ => (pe_tupS (pa_cons (pv 0) (pa_cons (pv 1) (pa_cons (pv 2) (pa_cons (pv 3) pa_nil))))))))), ?_⟩
    obtain ⟨dx, h1⟩ := N.ins
    obtain ⟨kvs, hd, hp⟩ := N.ties
    have hl := Paired.length hp
    refine ⟨_, rfl, n, c.net, dx, _, _, rfl, h1, O.cn, O.ft, rfl, dt, kvs, rfl, hd, fun o M hM => ?_⟩
    rw [itv_eq]
    have row : ∀ (i : Nat) (kv : Key × V), kvs[i]? = some kv → ∃ t p, S.ties[i]? = some t ∧ kv.2 = .ref p ∧ upd H dt (.frz o (.dK kvs)) p = some (.tup [.int t.1, .str t.2.1, .str t.2.2.1, .int t.2.2.2]) := fun i kv ek => by
      obtain ⟨t, et, _, p, ep, hp'⟩ := Paired.at hp ek
      exact ⟨t, p, et, ep, by rw [upd_ne (ne_of hp' hd (fun z => nomatch z))]; exact hp'⟩
    refine compP4_dict (fun i H v => ∃ t, S.ties[i]? = some t ∧ TieAt H v t) (fun i H H' v e ⟨t, a, b⟩ => ⟨t, a, b.mono e⟩) upd_same (by omega) (fun i kv ek => ?_) (fun i kv p x1 x2 x3 x4 H2 ek ep hp' e2 => ?_) (fun l H' vs h0 e' hl' vl hv => ?_) (fun i H v l ⟨t, _, b, eb, hb⟩ ⟨ys, hy⟩ z => ?_) (fun i H v l ys ⟨t, a, b, eb, hb⟩ nv => ?_)
    · obtain ⟨t, p, _, ep, hp'⟩ := row i kv ek
      exact ⟨p, _, _, _, _, ep, hp'⟩
    · obtain ⟨t, p', et, ep', hp''⟩ := row i kv ek
      rw [ep] at ep'
      cases ep'
      rw [hp'] at hp''
      cases hp''
      refine ⟨_, rfl, _, rfl, _, rfl, _, rfl, (by show 4 ≤ sizeLine; decide), fun a H5 e5 h05 ha => ⟨⟨t, et, a, rfl, ha⟩, e5⟩⟩
    · refine ⟨dt, o, kvs, hM, e' _ _ upd_same, q l _ (same_thaw hd e') ?_ ?_⟩
      · have nl : l ≠ dt := fun z => by rw [z, upd_same] at h0; cases h0
        rw [upd_ne nl] at h0
        exact h0
      · have nl : l ≠ dt := fun z => by rw [z, upd_same] at h0; cases h0
        refine ⟨vs, by rw [upd_ne nl]; exact hl', paired_of (by omega) fun i v t hv' ht => ?_⟩
        obtain ⟨⟨t', et, b, eb, hb⟩, _⟩ := hv i v hv'
        rw [ht] at et
        cases et
        exact ⟨b, eb, by rw [upd_ne (ne_of hb (e' _ _ upd_same) (fun z => nomatch z))]; exact hb⟩
    · rw [eb] at z
      cases z
      rw [hb] at hy
      cases hy
    · exact ⟨t, a, b, eb, by rw [upd_ne (fun z => nv (by rw [eb, z]))]; exact hb⟩
end
end K25
set_option maxRecDepth 100000
namespace K25
open PySem L2
open PyProof.Rows (boot_list boot_int boot_bool boot_tuple boot_str boot_dict boot_all)
inductive Leads (ts : List Tie) (x : Str) : Str → Prop
  | refl : Leads ts x x
  | step {t : Tie} : t ∈ ts → Leads ts x t.2.1 → Leads ts x t.2.2.1
def namesD (R : List Str) : HO := .dK (R.map fun y => ((Sum.inr y : Key), V.bl true))
theorem names_val (R : List Str) (y : Str) : (valV (R.map fun y => ((Sum.inr y : Key), V.bl true)) (Sum.inr y)).isSome = true ↔ y ∈ R := by
  induction R with
  | nil => simp [valV]
  | cons r R ih =>
    rw [List.map_cons]
    by_cases h : r = y
    · rw [valV_pos (by rw [h])]
      simp [h]
    · rw [valV_neg (fun z => h (Sum.inr.inj z)), ih]
      simp [Ne.symm h]
theorem names_none {R : List Str} {y : Str} (h : ¬ y ∈ R) : valV (R.map fun y => ((Sum.inr y : Key), V.bl true)) (Sum.inr y) = none := by
  cases hs : valV (R.map fun y => ((Sum.inr y : Key), V.bl true)) (Sum.inr y) with
  | none => rfl
  | some v => exact absurd ((names_val R y).mp (by rw [hs]; rfl)) h
def outs (ts : List Tie) (R : List Str) : Nat := (ts.filter fun t => decide (¬ t.2.2.1 ∈ R)).length
theorem outs_le (ts : List Tie) (R : List Str) (y : Str) : outs ts (R ++ [y]) ≤ outs ts R := by
  unfold outs
  induction ts with
  | nil => exact Nat.le_refl _
  | cons t ts ih =>
    simp only [List.filter_cons, List.mem_append, List.mem_singleton]
    by_cases h : t.2.2.1 ∈ R
    · simp only [h, true_or, not_true_eq_false, decide_false, Bool.false_eq_true, if_false]
      simpa using ih
    · by_cases h2 : t.2.2.1 = y
      · simp only [h, h2, or_true, not_true_eq_false, decide_false, Bool.false_eq_true, if_false, not_false_eq_true, decide_true, if_true]
        rw [← h2]
        simp only [h, not_false_eq_true, decide_true, if_true, List.length_cons]
        simp only [List.mem_append, List.mem_singleton] at ih
        rw [← h2] at ih
        omega
      · simp only [h, h2, or_self, not_false_eq_true, decide_true, if_true, List.length_cons]
        simp only [List.mem_append, List.mem_singleton] at ih
        omega
theorem outs_lt {ts : List Tie} {R : List Str} {t : Tie} (ht : t ∈ ts) (h : ¬ t.2.2.1 ∈ R) : outs ts (R ++ [t.2.2.1]) + 1 ≤ outs ts R := by
  induction ts with
  | nil => cases ht
  | cons u ts ih =>
    have keep := outs_le ts R t.2.2.1
    by_cases hu : u = t
    · subst hu
      unfold outs at keep ⊢
      simp only [List.filter_cons, List.mem_append, List.mem_singleton, or_true, not_true_eq_false, decide_false, Bool.false_eq_true, if_false, h, not_false_eq_true, decide_true, if_true, List.length_cons] at keep ⊢
      omega
    · have ht' : t ∈ ts := by
        rcases List.mem_cons.mp ht with z | z
        · exact absurd z.symm hu
        · exact z
      have ih := ih ht'
      unfold outs at ih ⊢
      simp only [List.filter_cons, List.mem_append, List.mem_singleton] at ih ⊢
      by_cases h1 : u.2.2.1 ∈ R
      · simp only [h1, true_or, not_true_eq_false, decide_false, Bool.false_eq_true, if_false]
        exact ih
      · by_cases h2 : u.2.2.1 = t.2.2.1
        · simp only [h2, h, or_true, not_true_eq_false, decide_false, Bool.false_eq_true, if_false, not_false_eq_true, decide_true, if_true, List.length_cons]
          omega
        · simp only [h1, h2, or_self, not_false_eq_true, decide_true, if_true, List.length_cons]
          omega
section
variable {P : Program} {w : World} {K : PySem.W.Frag} {mg : Str → Option Value} {base : Heap}
def sp_led_to : Sp := fun vs H Q _ => ∃ (l : Addr) (ts : List Tie) (x : Str), vs = [.ref l, .str x] ∧ TiesAt H l ts ∧ ts.length ≤ 1000 ∧ ∀ d H' R, Same H H' → H d = none → H' d = some (namesD R) → (∀ y, y ∈ R ↔ Leads ts x y) → Q (.ref d) H'
abbrev s_led_to : Stmt := top 23
theorem sc_led_to : FnScope ["ties", "start", "reached", "waiting", "name", "number", "one", "other", "delay"] ["ties", "start"] (defScope s_led_to) := ⟨rfl, rfl, rfl, by decide +kernel, rfl, by decide +kernel, by decide +kernel⟩
theorem ok_led_to {f : Addr} {fd : FuncData} (F : Fun K "led_to" "led_to" s_led_to f fd) (T : TxtN mg) : FnOk P w K mg base CX0 1 f fd ["ties", "start"] sp_led_to := by
  refine F.ok sc_led_to (fun vs H Q E h => ?_) (fun cdv A outer s H vs Q E hr h => ?_)
  · obtain ⟨l, ts, x, rfl, _⟩ := h
    rfl
  · obtain ⟨l, ts, x, rfl, ⟨xs, hl, hp⟩, hz, q⟩ := h
    have ND := sc_led_to.nd
    have hxl := Paired.length hp
    refine ⟨_, (pss_cons (ps_set (i := 2) ND rfl (by first | exact Or.inl rfl | exact Or.inr rfl) (pe_disp (pps_cons (pv 1) pe_bl pps_nil) rfl rfl (fun z => nomatch z) (by decide)))
  (pss_cons (ps_set (i := 3) ND rfl (by first | exact Or.inl rfl | exact Or.inr rfl) (pe_lst (pa_cons (pv 1) pa_nil)))
  (pss_cons (ps_while PassesOwn.never (pt_cmpR op_gt (pe_callB (lenK K) rfl T.n_len boot_len (pa_cons (pv 3) pa_nil)) pe_int (nomark _))
    (pss_cons (ps_set (i := 4) ND rfl (by first | exact Or.inl rfl | exact Or.inr rfl) (bm0K K PySem.F.plainAttrs_list PySem.F.slot_list_pop PySem.F.type_list_pop mt_pop (pv 3)))
  (pss_one (ps_for PassesOwn.never rfl (pilK K (pv 0)) (pgtK K (n := 4) rfl (pgs_cons (pg_name (i := 5) ND rfl (by first | exact Or.inl rfl | exact Or.inr rfl)) (pgs_cons (pg_name (i := 6) ND rfl (by first | exact Or.inl rfl | exact Or.inr rfl)) (pgs_cons (pg_name (i := 7) ND rfl (by first | exact Or.inl rfl | exact Or.inr rfl)) (pgs_cons (pg_name (i := 8) ND rfl (by first | exact Or.inl rfl | exact Or.inr rfl)) pgs_nil)))))
    (pss_one (ps_ifJ (PW.pt (pw_and (pt_cmpR op_eq (pv 6) (pv 4) (nomark _)) (pw_and1 (pt_cmp (pc_dnotin (hu_of hr) (pv 7) (pv 2))))))
    (pss_cons (ps_dput (hu_of hr) (pv 2) (pv 7) pe_bl rfl)
  (pss_one (ps_expr (bmK K PySem.F.plainAttrs_list PySem.F.slot_list_append PySem.F.type_list_append mt_append (pv 3) (pa_cons (pv 7) pa_nil)))))
    pss_nil))))))
  (pss_one (ps_ret (pv 2)))))), ?_⟩
    intro d hd
    refine ⟨_, rfl, upd_same, [(Sum.inr x, .bl true)], rfl, (by show 1 ≤ 15; decide), ?_⟩
    have e0 : upd (upd H d (.dK [])) d (.dK (mergeK [] [(Sum.inr x, .bl true)])) = upd H d (namesD [x]) := by rw [upd_upd]; rfl
    rw [e0]
    refine ⟨_, rfl, (by show 1 ≤ sizeLine; decide), fun wl hwl => ?_⟩
    have nwd : wl ≠ d := fun z => by rw [z, upd_same] at hwl; cases hwl
    have hwl0 : H wl = none := by rw [upd_ne nwd] at hwl; exact hwl
    have s0 : Same H (upd (upd H d (namesD [x])) wl (.lst [.str x])) := same_new (same_upd (Same.refl _) hd) hwl0
    refine ⟨fun m σ H2 => ∃ (R Wt : List Str) (o4 o5 o6 o7 o8 : Option V), σ = [some (.ref l), some (.str x), some (.ref d), some (.ref wl), o4, o5, o6, o7, o8] ∧ Same H H2 ∧ H2 d = some (namesD R) ∧ H2 wl = some (.lst (Wt.map V.str)) ∧
      x ∈ R ∧ (∀ y ∈ R, Leads ts x y) ∧ (∀ y ∈ Wt, y ∈ R) ∧ (∀ t ∈ ts, t.2.1 ∈ R → ¬ t.2.1 ∈ Wt → t.2.2.1 ∈ R) ∧ R.length + outs ts R ≤ 1 + ts.length ∧ Wt.length ≤ R.length ∧ m = 2 * outs ts R + Wt.length,
      ⟨_, [x], [x], none, none, none, none, none, rfl, s0, by rw [upd_ne nwd.symm]; exact upd_same, upd_same, by simp, fun y hy => by rw [List.mem_singleton.mp hy]; exact .refl, fun y hy => hy, fun t _ h1 h2 => absurd h1 h2, ?_, Nat.le_refl _, rfl⟩, ?_⟩
    · have : outs ts [x] ≤ ts.length := List.length_filter_le _ _
      show 1 + outs ts [x] ≤ 1 + ts.length
      omega
    rintro m σ H2 ⟨R, Wt, o4, o5, o6, o7, o8, rfl, e2, hd2, hw2, xR, ld, wR, cls, bnd, wle, rfl⟩
    refine ⟨_, rfl, wl, _, rfl, .inl (SqL.of hw2), _, _, rfl, rfl, _, rfl, ite2 (fun hc => ?_) (fun hc => ?_)⟩
    · have hc : 0 < Wt.length := by have := of_decide_eq_true hc; rw [List.length_map] at this; omega
      obtain ⟨W', nm, rfl⟩ : ∃ W' nm, Wt = W' ++ [nm] := ⟨Wt.dropLast, Wt.getLast (List.ne_nil_of_length_pos hc), (List.dropLast_concat_getLast _).symm⟩
      have nmR : nm ∈ R := wR nm (by simp)
      refine ⟨fun σ' H' => ∃ m', m' < 2 * outs ts R + (W' ++ [nm]).length ∧ ∃ (R Wt : List Str) (o4 o5 o6 o7 o8 : Option V), σ' = [some (.ref l), some (.str x), some (.ref d), some (.ref wl), o4, o5, o6, o7, o8] ∧ Same H H' ∧ H' d = some (namesD R) ∧ H' wl = some (.lst (Wt.map V.str)) ∧
        x ∈ R ∧ (∀ y ∈ R, Leads ts x y) ∧ (∀ y ∈ Wt, y ∈ R) ∧ (∀ t ∈ ts, t.2.1 ∈ R → ¬ t.2.1 ∈ Wt → t.2.2.1 ∈ R) ∧ R.length + outs ts R ≤ 1 + ts.length ∧ Wt.length ≤ R.length ∧ m' = 2 * outs ts R + Wt.length, fun σ' H' h => h, ?_⟩
      refine ⟨_, rfl, .inl ⟨rfl, _, SqL.of hw2⟩, wl, _, .str nm, rfl, rfl, hw2, ?_, ?_⟩
      · rw [List.map_append, List.length_append]
        simp
      have hdrop : ((W' ++ [nm]).map V.str).dropLast = W'.map V.str := by rw [List.map_append]; simp
      rw [hdrop]
      have e3 : Same H (upd H2 wl (.lst (W'.map V.str))) := same_new e2 hwl0
      refine ⟨_, rfl, l, rfl, ⟨_, SqL.of (e3 _ _ hl)⟩, for_list (K := K) (xs := xs) (fun j σ H3 => ∃ (R' W1 : List Str) (o5 o6 o7 o8 : Option V), σ = [some (.ref l), some (.str x), some (.ref d), some (.ref wl), some (.str nm), o5, o6, o7, o8] ∧ Same H H3 ∧ H3 d = some (namesD R') ∧ H3 wl = some (.lst (W1.map V.str)) ∧
        x ∈ R' ∧ nm ∈ R' ∧ (∀ y ∈ R', Leads ts x y) ∧ (∀ y ∈ W1, y ∈ R') ∧ (∀ t ∈ ts, t.2.1 ∈ R' → ¬ t.2.1 ∈ W1 → t.2.1 ≠ nm → t.2.2.1 ∈ R') ∧ (∀ t ∈ ts.take j, t.2.1 = nm → t.2.2.1 ∈ R') ∧ R'.length + outs ts R' ≤ 1 + ts.length ∧ W1.length ≤ R'.length ∧ 2 * outs ts R' + W1.length < 2 * outs ts R + (W' ++ [nm]).length)
        ⟨R, W', _, _, _, _, rfl, e3, by rw [upd_ne nwd.symm]; exact hd2, upd_same, xR, nmR, ld, fun y hy => wR y (by simp [hy]), fun t ht h1 h2 h3 => cls t ht h1 (fun z => by rcases List.mem_append.mp z with z | z; exact h2 z; exact h3 (by simpa using z)), fun t ht => by simp at ht, bnd, ?_, ?_⟩ (fun j σ H3 _ h => ?_) (fun j v σ H3 ex h => ?_) (fun σ H3 h => ?_)⟩
      · rw [List.length_append] at wle
        simp at wle
        omega
      · rw [List.length_append]; simp
      · obtain ⟨_, _, _, _, _, _, _, e3', _⟩ := h
        exact SqL.of (e3' _ _ hl)
      · obtain ⟨R', W1, o5, o6, o7, o8, rfl, e4, hd4, hw4, xR4, nm4, ld4, wR4, cls4, done4, bnd4, wle4, ms4⟩ := h
        obtain ⟨t, et, p, rfl, hp'⟩ := Paired.at hp ex
        have tm : t ∈ ts := List.mem_of_getElem? et
        have tk : ts.take (j + 1) = ts.take j ++ [t] := by rw [List.take_add_one, et]; rfl
        refine ⟨p, _, rfl, SqT.of (e4 _ _ hp'), rfl, _, _, rfl, _, _, rfl, _, _, rfl, _, [], rfl, rfl, ?_⟩
        have stay : ∀ H5, H5 = H3 → (t.2.1 = nm → t.2.2.1 ∈ R') → ∃ (R' W1 : List Str) (o5 o6 o7 o8 : Option V), ([some (.ref l), some (.str x), some (.ref d), some (.ref wl), some (.str nm), some (.int t.1), some (.str t.2.1), some (.str t.2.2.1), some (.int t.2.2.2)] : St) = [some (.ref l), some (.str x), some (.ref d), some (.ref wl), some (.str nm), o5, o6, o7, o8] ∧ Same H H5 ∧ H5 d = some (namesD R') ∧ H5 wl = some (.lst (W1.map V.str)) ∧
            x ∈ R' ∧ nm ∈ R' ∧ (∀ y ∈ R', Leads ts x y) ∧ (∀ y ∈ W1, y ∈ R') ∧ (∀ t ∈ ts, t.2.1 ∈ R' → ¬ t.2.1 ∈ W1 → t.2.1 ≠ nm → t.2.2.1 ∈ R') ∧ (∀ t ∈ ts.take (j + 1), t.2.1 = nm → t.2.2.1 ∈ R') ∧ R'.length + outs ts R' ≤ 1 + ts.length ∧ W1.length ≤ R'.length ∧ 2 * outs ts R' + W1.length < 2 * outs ts R + (W' ++ [nm]).length := fun H5 eH ht => by
          subst eH
          refine ⟨R', W1, _, _, _, _, rfl, e4, hd4, hw4, xR4, nm4, ld4, wR4, cls4, fun u hu hun => ?_, bnd4, wle4, ms4⟩
          rw [tk] at hu
          rcases List.mem_append.mp hu with z | z
          · exact done4 u z hun
          · rw [List.mem_singleton.mp z] at hun ⊢
            exact ht hun
        refine ⟨_, fun σ' H' h => h, ?_⟩
        refine ⟨_, rfl, _, rfl, rfl, _, rfl, ite2 (fun h1 => ?_) (fun h1 => iteF (stay H3 rfl fun z => absurd (decide_eq_true (by rw [z])) h1))⟩
        have h1 : t.2.1 = nm := by have := of_decide_eq_true h1; injection this
        refine ⟨_, rfl, _, rfl, d, _, rfl, DGet.k (k := Sum.inr t.2.2.1) hd4, _, rfl, ?_⟩
        cases hs : (valV (R'.map fun y => ((Sum.inr y : Key), V.bl true)) (Sum.inr t.2.2.1)).isSome with
        | true => exact iteF (stay H3 rfl fun _ => (names_val R' _).mp hs)
        | false =>
          have nin : ¬ t.2.2.1 ∈ R' := fun z => by rw [(names_val R' _).mpr z] at hs; cases hs
          refine iteT ?_
          refine ⟨_, rfl, _, rfl, d, _, rfl, DPut.k (k := Sum.inr t.2.2.1) hd4 (by rw [List.length_map]; show R'.length < 2 ^ 24; omega), ?_⟩
          rw [putK_new _ (names_none nin)]
          have hw5 : upd H3 d (.dK ((R'.map fun y => ((Sum.inr y : Key), V.bl true)) ++ [(Sum.inr t.2.2.1, .bl true)])) wl = some (.lst (W1.map V.str)) := by rw [upd_ne nwd]; exact hw4
          refine ⟨_, rfl, .inl ⟨rfl, _, SqL.of hw5⟩, _, rfl, wl, _, _, rfl, rfl, hw5, by rw [List.length_map]; show W1.length < 2 ^ 24; omega, ?_⟩
          have ol := outs_lt tm nin
          refine ⟨R' ++ [t.2.2.1], W1 ++ [t.2.2.1], _, _, _, _, rfl, same_new (same_new e4 hd) hwl0, ?_, ?_, by simp [xR4], by simp [nm4], fun y hy => ?_, fun y hy => ?_, fun u hu hu1 hu2 hu3 => ?_, fun u hu hun => ?_, ?_, ?_, ?_⟩
          · rw [upd_ne nwd.symm, upd_same]
            unfold namesD
            rw [List.map_append]
            rfl
          · rw [upd_same, List.map_append]
            rfl
          · rcases List.mem_append.mp hy with z | z
            · exact ld4 y z
            · rw [List.mem_singleton.mp z]
              exact .step tm (h1 ▸ ld4 nm nm4)
          · rcases List.mem_append.mp hy with z | z
            · exact List.mem_append_left _ (wR4 y z)
            · exact List.mem_append_right _ z
          · have hu1' : u.2.1 ∈ R' := by
              rcases List.mem_append.mp hu1 with z | z
              · exact z
              · exact absurd (List.mem_append_right _ z) hu2
            exact List.mem_append_left _ (cls4 u hu hu1' (fun z => hu2 (List.mem_append_left _ z)) hu3)
          · rw [tk] at hu
            rcases List.mem_append.mp hu with z | z
            · exact List.mem_append_left _ (done4 u z hun)
            · rw [List.mem_singleton.mp z]
              simp
          · rw [List.length_append]
            show R'.length + 1 + _ ≤ _
            omega
          · rw [List.length_append, List.length_append]
            show W1.length + 1 ≤ R'.length + 1
            omega
          · have : (W1 ++ [t.2.2.1]).length = W1.length + 1 := by simp
            rw [this]
            omega
      · obtain ⟨R', W1, o5, o6, o7, o8, rfl, e4, hd4, hw4, xR4, nm4, ld4, wR4, cls4, done4, bnd4, wle4, ms4⟩ := h
        rw [hxl, List.take_length] at done4
        refine ⟨_, ms4, R', W1, _, _, _, _, _, rfl, e4, hd4, hw4, xR4, ld4, wR4, fun t ht h1 h2 => ?_, bnd4, wle4, rfl⟩
        by_cases h3 : t.2.1 = nm
        · exact done4 t ht h3
        · exact cls4 t ht h1 h2 h3
    · have hc : Wt = [] := by
        cases Wt with
        | nil => rfl
        | cons y Wt => exact absurd (decide_eq_true (by rw [List.length_map, List.length_cons]; omega)) hc
      subst hc
      refine ⟨_, rfl, q d H2 R e2 hd hd2 fun y => ⟨ld y, fun h => ?_⟩⟩
      induction h with
      | refl => exact xR
      | step ht _ ih => exact cls _ ht ih (by simp)
end
end K25
set_option maxRecDepth 100000
namespace K25
open PySem L2
open PyProof.Rows (boot_list boot_int boot_bool boot_tuple boot_str boot_dict boot_all)
structure Xt where
  noPost : Addr
  intoHouse : Addr
  ringMade : Addr
  noNumber : Addr
  tooMany : Addr
  noSuch : Addr
structure TxtY (K : PySem.W.Frag) (mg : Str → Option Value) (x : Xt) : Prop where
  c_IntoHouse : mg "IntoHouse" = some (.ref x.intoHouse)
  x_IntoHouse : PySem.W.excIn K x.intoHouse mroVE "ValueError.__new__" = true
  c_RingMade : mg "RingMade" = some (.ref x.ringMade)
  x_RingMade : PySem.W.excIn K x.ringMade mroVE "ValueError.__new__" = true
  c_NoNumber : mg "NoNumber" = some (.ref x.noNumber)
  x_NoNumber : PySem.W.excIn K x.noNumber mroVE "ValueError.__new__" = true
  c_TooMany : mg "TooMany" = some (.ref x.tooMany)
  x_TooMany : PySem.W.excIn K x.tooMany mroVE "ValueError.__new__" = true
inductive Er where
  | noPost (z : Str)
  | intoHouse
  | ringMade
  | noNumber
  | tooMany
  | noSuch (k : Int)
def Xt.of (x : Xt) : Er → Addr
  | .noPost _ => x.noPost
  | .intoHouse => x.intoHouse
  | .ringMade => x.ringMade
  | .noNumber => x.noNumber
  | .tooMany => x.tooMany
  | .noSuch _ => x.noSuch
def Er.fld : Er → Option (Str × V)
  | .noPost z => some ("name", .str z)
  | .noSuch k => some ("number", .int k)
  | _ => none
def Rs (X : Xt) (E : XK) (H : Hp) (r : Er) : Prop :=
  match r.fld with
  | none => ∀ H', Same H H' → E (.ref (X.of r)) none H'
  | some fy => ∀ dx H', Same H H' → H' dx = some (.xd [fy]) → E (.ref (X.of r)) (some dx) H'
section
variable {P : Program} {w : World} {K : PySem.W.Frag} {mg : Str → Option Value} {base : Heap}
def sp_exinit (C : Addr) (f : Str) : Sp := fun vs H Q _ => ∃ (ea : Addr) (y : V), vs = [.ref ea, y] ∧ H ea = some (excN ea C) ∧ ∀ dx, H dx = none → dx ≠ ea → Q .non (upd (upd H dx (.xd [(f, y)])) ea (excM ea C dx))
abbrev s_NoPost___init__ : Stmt := inClass (top 10) 0
theorem sc_NoPost___init__ : FnScope ["self", "name"] ["self", "name"] (defScope s_NoPost___init__) := ⟨rfl, rfl, rfl, by decide +kernel, rfl, by decide +kernel, by decide +kernel⟩
theorem ok_NoPost_init {C : Addr} {f : Addr} {fd : FuncData} (F : Fun K "__init__" "NoPost.__init__" s_NoPost___init__ f fd) (T : ExcF K C "name") : FnOk P w K mg base CX0 1 f fd ["self", "name"] (sp_exinit C "name") := by
  refine F.ok sc_NoPost___init__ (fun vs H Q E h => ?_) (fun cdv A outer s H vs Q E hr h => ?_)
  · obtain ⟨ea, y, rfl, _⟩ := h
    rfl
  · obtain ⟨ea, y, rfl, he, q⟩ := h
    refine ⟨_, (pss_one (ps_fldE T (pv 0) (pv 1) rfl)), ?_⟩
    exact ⟨_, rfl, _, rfl, ea, rfl, he, q⟩
def sp_thereX (c : Cl) (X : Xt) : Sp := fun vs H Q E => ∃ (n dp dt : Addr) (S : NS) (x : Str), vs = [.ref n, .str x] ∧ NetAt c H n dp dt S ∧ (x ∈ S.names → Q .non H) ∧ (¬ x ∈ S.names → Rs X E H (.noPost x))
abbrev s_Net_check_there : Stmt := inClass (top 27) 8
theorem sc_Net_check_there : FnScope ["self", "name"] ["self", "name"] (defScope s_Net_check_there) := ⟨rfl, rfl, rfl, by decide +kernel, rfl, by decide +kernel, by decide +kernel⟩
theorem ok_Net_check_there {c : Cl} {X : Xt} {f : Addr} {fd : FuncData} (F : Fun K "check_there" "Net.check_there" s_Net_check_there f fd) (O : Cl.Ok K c) (D_NoPost : DiX P w K mg base 1 "NoPost" X.noPost ["self", "name"] (sp_exinit X.noPost "name")) : FnOk P w K mg base (CXE P w) 3 f fd ["self", "name"] (sp_thereX c X) := by
  refine F.okX sc_Net_check_there (fun vs H Q E h => ?_) (fun cdv A outer s H vs Q E hr h => ?_)
  · obtain ⟨n, dp, dt, S, x, rfl, _⟩ := h
    rfl
  · obtain ⟨n, dp, dt, S, x, rfl, N, q1, q2⟩ := h
    obtain ⟨dx, h1⟩ := N.ins
    obtain ⟨kvs, hd, hp⟩ := N.posts
    refine ⟨_, (pss_one (ps_if (pt_cmp (pc_dnotin (hu_of hr) (pv 1) (fldK K (pv 0) rfl)))
    (pss_one (ps_raiseI own_def rfl dict_def rfl D_NoPost (hr.mono (by decide)) (pa_cons (pv 1) pa_nil)))
    pss_nil)), ?_⟩
    refine ⟨_, rfl, _, rfl, n, c.net, dx, _, _, rfl, h1, O.cn, O.fp, rfl, dp, _, rfl, DGet.k (k := Sum.inr x) hd, _, rfl, ?_⟩
    have hv := val_some (x := x) hp
    cases hs : (valV kvs (Sum.inr x)).isSome with
    | true => exact iteF (q1 (hv.mp hs))
    | false =>
      have hx : ¬ x ∈ S.names := fun z => by rw [hv.mpr z] at hs; cases hs
      refine iteT ?_
      refine ⟨_, rfl, (by show 1 ≤ sizeLine; decide), fun ea hea => ⟨ea, _, rfl, upd_same, fun dy hdy ne => ⟨rfl, dy, upd_same, ?_⟩⟩⟩
      have hdy : H dy = none := by rw [upd_ne ne] at hdy; exact hdy
      refine q2 hx dy _ (fun b o hb => ?_) ?_
      · rw [hide_ne (ne_of_none hb hea), upd_ne (ne_of_none hb hea), upd_ne (ne_of_none hb hdy), upd_ne (ne_of_none hb hea)]
        exact hb
      · rw [hide_ne ne, upd_ne ne]
        exact upd_same
theorem val_post {c : Cl} {H : Hp} {x : Str} : ∀ {kvs : List (Key × V)} {ps : List (Str × Kd)}, Paired (fun (kv : Key × V) p => kv.1 = Sum.inr p.1 ∧ PostAt c H kv.2 p) kvs ps → x ∈ ps.map (·.1) → ∃ v p, valV kvs (Sum.inr x) = some v ∧ p ∈ ps ∧ p.1 = x ∧ PostAt c H v p ∧ ps.find? (fun p => decide (p.1 = x)) = some p
  | _, _, .nil, h => by simp at h
  | kv :: kvs, p :: ps, .cons ⟨e, pa⟩ r, h => by
    by_cases hx : p.1 = x
    · exact ⟨kv.2, p, valV_pos (by rw [e, hx]), by simp, hx, pa, by rw [List.find?_cons, decide_eq_true hx]⟩
    · have h' : x ∈ ps.map (·.1) := by
        rcases List.mem_map.mp h with ⟨q, hq, e2⟩
        rcases List.mem_cons.mp hq with z | z
        · rw [z] at e2; exact absurd e2 hx
        · exact List.mem_map.mpr ⟨q, z, e2⟩
      obtain ⟨v, q, a1, a2, a3, a4, a5⟩ := val_post r h'
      exact ⟨v, q, by rw [valV_neg (by rw [e]; exact fun z => hx (Sum.inr.inj z))]; exact a1, by simp [a2], a3, a4, by rw [List.find?_cons, decide_eq_false hx]; exact a5⟩
def NS.kind (S : NS) (x : Str) : Kd := ((S.posts.find? fun p => decide (p.1 = x)).map (·.2)).getD .post
open Classical in
noncomputable def dueN (S : NS) (x y : Str) : Option Er :=
  if x ∈ S.names then if y ∈ S.names then if hrB (S.kind y) = true then if Leads S.ties y x then some .ringMade else none else some .intoHouse else some (.noPost y) else some (.noPost x)
def sp_ends (c : Cl) (X : Xt) : Sp := fun vs H Q E => ∃ (n dp dt : Addr) (S : NS) (x y : Str), vs = [.ref n, .str x, .str y] ∧ NetAt c H n dp dt S ∧ S.ties.length ≤ 1000 ∧ (∀ r, dueN S x y = some r → Rs X E H r) ∧ (dueN S x y = none → ∀ H', Same H H' → Q .non H')
abbrev s_Net_check_ends : Stmt := inClass (top 27) 7
theorem sc_Net_check_ends : FnScope ["self", "one", "other"] ["self", "one", "other"] (defScope s_Net_check_ends) := ⟨rfl, rfl, rfl, by decide +kernel, rfl, by decide +kernel, by decide +kernel⟩
theorem ok_Net_check_ends {c : Cl} {X : Xt} {f : Addr} {fd : FuncData} (F : Fun K "check_ends" "Net.check_ends" s_Net_check_ends f fd) (O : Cl.Ok K c) (TX : TxtY K mg X) (D_hears : ∀ C, IsPost c C → Dm P w K mg base 1 C "hears" ["self"] (sp_hearsC c C))
    (D_Net_check_there : DmX P w K mg base 3 c.net "check_there" ["self", "name"] (sp_thereX c X)) (D_Net_ties : Dm P w K mg base 1 c.net "ties" ["self"] (sp_ties c)) (D_led_to : Df P w K mg base 1 "led_to" ["ties", "start"] sp_led_to) : FnOk P w K mg base (CXE P w) 4 f fd ["self", "one", "other"] (sp_ends c X) := by
  refine F.okX sc_Net_check_ends (fun vs H Q E h => ?_) (fun cdv A outer s H vs Q E hr h => ?_)
  · obtain ⟨n, dp, dt, S, x, y, rfl, _⟩ := h
    rfl
  · obtain ⟨n, dp, dt, S, x, y, rfl, N, hz, q1, q2⟩ := h
    obtain ⟨dx, h1⟩ := id N.ins
    obtain ⟨kvs, hd, hp⟩ := id N.posts
    refine ⟨_, (pss_cons (ps_expr (pe_methX on_def (pv 0) D_Net_check_there (hr.mono (by decide)) (pa_cons (pv 1) pa_nil)))
  (pss_cons (ps_expr (pe_methX on_def (pv 0) D_Net_check_there (hr.mono (by decide)) (pa_cons (pv 2) pa_nil)))
  (pss_cons (ps_if (pt_not (pt_val (pe_meth0C (pe_dget (hu_of hr) (fldK K (pv 0) rfl) (pv 2) (fun _ _ => rfl)) D_hears (hr.mono (by decide)))))
    (pss_one (ps_raise0 rfl made_def rfl TX.c_IntoHouse TX.x_IntoHouse))
    pss_nil)
  (pss_one (ps_if (pt_cmp (pc_din (hu_of hr) (pv 1) (pe_callD D_led_to (hr.mono (by decide)) rfl (pa_cons (pe_meth0D (pv 0) D_Net_ties (hr.mono (by decide))) (pa_cons (pv 2) pa_nil)))))
    (pss_one (ps_raise0 rfl made_def rfl TX.c_RingMade TX.x_RingMade))
    pss_nil))))), ?_⟩
    refine ⟨_, rfl, n, dx, _, rfl, h1, rfl, _, rfl, n, dp, dt, S, x, rfl, N, fun hx => ?_, fun hx => q1 (.noPost x) (by unfold dueN; rw [if_neg hx])⟩
    refine ⟨_, rfl, n, dx, _, rfl, h1, rfl, _, rfl, n, dp, dt, S, y, rfl, N, fun hy => ?_, fun hy => q1 (.noPost y) (by unfold dueN; rw [if_pos hx, if_neg hy])⟩
    obtain ⟨v, p, hv, _, _, ⟨a, dxa, rfl, ha⟩, hf⟩ := val_post hp hy
    have hk : S.kind y = p.2 := by unfold NS.kind; rw [hf]; rfl
    refine ⟨_, rfl, n, c.net, dx, _, _, rfl, h1, O.cn, O.fp, rfl, _, rfl, dp, _, rfl, hv ▸ DGet.k (k := Sum.inr y) hd, a, c.of p.2, dxa, _, rfl, ⟨_, rfl⟩, ha, rfl, _, rfl, _, rfl, ?_⟩
    rw [hears_of O, ← hk]
    cases hb : hrB (S.kind y) with
    | false => exact iteT (q1 .intoHouse (by unfold dueN; rw [if_pos hx, if_pos hy, if_neg (by rw [hb]; exact fun z => nomatch z)]) H (Same.refl _))
    | true =>
      refine iteF ?_
      refine ⟨_, rfl, _, rfl, n, dx, _, rfl, h1, rfl, n, dp, dt, S, rfl, N, hz, fun l H1 e1 h01 hl1 => ?_⟩
      refine ⟨_, rfl, l, S.ties, y, rfl, hl1, hz, fun d H2 R e2 h02 hd2 hR => ?_⟩
      refine ⟨d, _, rfl, DGet.k (k := Sum.inr x) hd2, _, rfl, ?_⟩
      cases hs : (valV (R.map fun y => ((Sum.inr y : Key), V.bl true)) (Sum.inr x)).isSome with
      | true => exact iteT (q1 .ringMade (by unfold dueN; rw [if_pos hx, if_pos hy, if_pos hb, if_pos ((hR x).mp ((names_val R x).mp hs))]) H2 (e1.trans e2))
      | false => exact iteF (q2 (by unfold dueN; rw [if_pos hx, if_pos hy, if_pos hb, if_neg (fun z => by rw [(names_val R x).mpr ((hR x).mpr z)] at hs; cases hs)]) H2 (e1.trans e2))
end
end K25
set_option maxRecDepth 100000
namespace K25
open PySem L2
open PyProof.Rows (boot_list boot_int boot_bool boot_tuple boot_str boot_dict boot_all)
def NS.tie (S : NS) (x y : Str) (d : Int) : NS := { S with ties := S.ties ++ [(S.next, x, y, d)], next := S.next + 1 }
def But2 (n d : Addr) (H H' : Hp) : Prop := ∀ a o, a ≠ n → a ≠ d → H a = some o → H' a = some o
theorem val_tie {H : Hp} {k : Int} : ∀ {kvs : List (Key × V)} {ts : List Tie}, Paired (fun (kv : Key × V) (t : Tie) => kv.1 = Sum.inl t.1 ∧ TieAt H kv.2 t) kvs ts → ((valV kvs (Sum.inl k)).isSome = true ↔ k ∈ ts.map (·.1))
  | _, _, .nil => by simp [valV]
  | kv :: kvs, t :: ts, .cons ⟨e, _⟩ r => by
    by_cases h : t.1 = k
    · rw [valV_pos (by rw [e, h])]
      simp [h]
    · rw [valV_neg (by rw [e]; exact fun z => h (Sum.inl.inj z)), val_tie r]
      simp [Ne.symm h]
noncomputable def dueT (S : NS) (x y : Str) (d : Int) : Option Er :=
  match dueN S x y with
  | some r => some r
  | none => if isDelay d = true then if 40 ≤ S.ties.length then some .tooMany else none else some .noNumber
theorem dueT_some {S : NS} {x y : Str} {d : Int} {r : Er} (h : dueN S x y = some r) : dueT S x y d = some r := by unfold dueT; rw [h]
theorem dueT_none {S : NS} {x y : Str} {d : Int} (h : dueN S x y = none) : dueT S x y d = if isDelay d = true then if 40 ≤ S.ties.length then some .tooMany else none else some .noNumber := by unfold dueT; rw [h]
section
variable {P : Program} {w : World} {K : PySem.W.Frag} {mg : Str → Option Value} {base : Heap}
def sp_tie (c : Cl) (X : Xt) : Sp := fun vs H Q E => ∃ (n dp dt : Addr) (S : NS) (x y : Str) (d : Int), vs = [.ref n, .str x, .str y, .int d] ∧ NetAt c H n dp dt S ∧ S.ties.length ≤ 1000 ∧ (∀ t ∈ S.ties, t.1 < S.next) ∧
  (∀ r, dueT S x y d = some r → Rs X E H r) ∧ (dueT S x y d = none → ∀ H', But2 n dt H H' → NetAt c H' n dp dt (S.tie x y d) → Q (.int S.next) H')
abbrev s_Net_tie : Stmt := inClass (top 27) 6
theorem sc_Net_tie : FnScope ["self", "one", "other", "delay", "number"] ["self", "one", "other", "delay"] (defScope s_Net_tie) := ⟨rfl, rfl, rfl, by decide +kernel, rfl, by decide +kernel, by decide +kernel⟩
theorem Rs.from {X : Xt} {E : XK} {H H1 : Hp} {r : Er} (h : Rs X E H r) (e : Same H H1) : Rs X E H1 r := by
  unfold Rs at h ⊢
  cases hf : r.fld with
  | none => rw [hf] at h; exact fun H' e' => h H' (e.trans e')
  | some fy => rw [hf] at h; exact fun dx H' e' => h dx H' (e.trans e')
theorem ok_Net_tie {c : Cl} {X : Xt} {f : Addr} {fd : FuncData} (F : FunD K "tie" "Net.tie" s_Net_tie f fd) (O : Cl.Ok K c) (T : TxtN mg) (TH : TxtH mg) (TX : TxtY K mg X) (D_Net_check_ends : DmX P w K mg base 4 c.net "check_ends" ["self", "one", "other"] (sp_ends c X)) (D_is_delay : Df P w K mg base 2 "is_delay" ["number"] sp_is_delay) :
    FnOk P w K mg base (CXE P w) 5 f fd ["self", "one", "other", "delay"] (sp_tie c X) := by
  obtain ⟨tl, hg_MOST_TIES⟩ := TH.mot
  refine F.okX sc_Net_tie (fun vs H Q E h => ?_) (fun cdv A outer s H vs Q E hr h => ?_)
  · obtain ⟨n, dp, dt, S, x, y, d, rfl, _⟩ := h
    rfl
  · obtain ⟨n, dp, dt, S, x, y, d, rfl, N, hz, hnum, q1, q5⟩ := h
    have ND := sc_Net_tie.nd
    obtain ⟨dx, h1⟩ := id N.ins
    obtain ⟨kvs, hd, hp⟩ := id N.ties
    have hl := Paired.length hp
    refine ⟨_, (pss_cons (ps_expr (pe_methX on_def (pv 0) D_Net_check_ends (hr.mono (by decide)) (pa_cons (pv 1) (pa_cons (pv 2) pa_nil))))
  (pss_cons (ps_if (pt_not (pt_val (pe_callD D_is_delay (hr.mono (by decide)) rfl (pa_cons (pv 3) pa_nil))))
    (pss_one (ps_raise0 rfl made_def rfl TX.c_NoNumber TX.x_NoNumber))
    pss_nil)
  (pss_cons (ps_if (pt_cmpR op_ge (pe_callB call_len_dK rfl T.n_len boot_len (pa_cons (fldK K (pv 0) rfl) pa_nil)) (pe_glob (v := .int 40) rfl hg_MOST_TIES ⟨_, rfl⟩) (nomark _))
    (pss_one (ps_raise0 rfl made_def rfl TX.c_TooMany TX.x_TooMany))
    pss_nil)
  (pss_cons (ps_set (i := 4) ND rfl (by first | exact Or.inl rfl | exact Or.inr rfl) (fldK K (pv 0) rfl))
  (pss_cons (ps_dput (hu_of hr) (fldK K (pv 0) rfl) (pv 4) (pe_tupS (pa_cons (pv 4) (pa_cons (pv 1) (pa_cons (pv 2) (pa_cons (pv 3) pa_nil))))) rfl)
  (pss_cons (ps_fld (pv 0) (pe_op op_add (pv 4) pe_int) rfl)
  (pss_one (ps_ret (pv 4))))))))), ?_⟩
    refine ⟨_, rfl, n, dx, _, rfl, h1, rfl, _, rfl, _, rfl, n, dp, dt, S, x, y, rfl, N, hz, fun r hr' => q1 r (dueT_some hr'), fun hN H1 e1 => ?_⟩
    have hT := dueT_none (d := d) hN
    refine ⟨_, rfl, d, rfl, _, rfl, ?_⟩
    cases hi : isDelay d with
    | false => exact iteT (q1 .noNumber (by rw [hT, if_neg (by rw [hi]; exact fun z => nomatch z)]) H1 e1)
    | true =>
      rw [if_pos hi] at hT
      refine iteF ?_
      refine ⟨_, rfl, n, c.net, dx, _, _, rfl, e1 _ _ h1, O.cn, O.ft, rfl, dt, kvs, rfl, e1 _ _ hd, _, _, rfl, rfl, _, rfl, ite2 (fun g => ?_) (fun g => ?_)⟩
      · exact q1 .tooMany (by rw [hT, if_pos (by have := of_decide_eq_true g; omega)]) H1 e1
      · have g : ¬ 40 ≤ S.ties.length := by
          have : ¬ (40 : Int) ≤ (kvs.length : Int) := fun z => g (decide_eq_true z)
          omega
        rw [if_neg g] at hT
        refine ⟨_, rfl, n, c.net, dx, _, _, rfl, e1 _ _ h1, O.cn, O.fn, rfl, ?_⟩
        refine ⟨_, rfl, _, rfl, _, rfl, _, rfl, (by show 4 ≤ sizeLine; decide), fun tp H2 e2 h02 htp => ?_⟩
        have e12 := e1.trans e2
        have hv : valV kvs (Sum.inl S.next) = none := by
          cases hs : valV kvs (Sum.inl S.next) with
          | none => rfl
          | some v =>
            obtain ⟨t, ht, et⟩ := List.mem_map.mp ((val_tie (k := S.next) hp).mp (by rw [hs]; rfl))
            have := hnum t ht
            omega
        have nnt : n ≠ dt := ne_of h1 hd (fun z => nomatch z)
        refine ⟨_, rfl, n, c.net, dx, _, _, rfl, e12 _ _ h1, O.cn, O.ft, rfl, _, rfl, dt, _, rfl, DPut.k (k := Sum.inl S.next) (e12 _ _ hd) (by show kvs.length < 2 ^ 24; omega), ?_⟩
        rw [putK_new _ hv]
        refine ⟨_, rfl, _, _, rfl, rfl, _, rfl, n, c.net, dx, _, rfl, by rw [upd_ne nnt]; exact e12 _ _ h1, O.cn, O.fn, (by show 3 < 1000; decide), ?_⟩
        have b2 : But2 n dt H (upd (upd H2 dt (.dK (kvs ++ [(Sum.inl S.next, .ref tp)]))) n (.ins c.net dx [("kept_posts", .ref dp), ("kept_ties", .ref dt), ("next_number", .int (S.next + 1))])) := fun a o na nd ha => by
          rw [upd_ne na, upd_ne nd]; exact e12 _ _ ha
        refine ⟨_, rfl, q5 hT _ b2 ?_⟩
        obtain ⟨_, ⟨kp, h2, p2⟩, _, h4⟩ := N
        have keepP : ∀ {v : V} {q : Str × Kd}, PostAt c H v q → v ≠ .ref n → PostAt c _ v q := fun {v q} ⟨b, dxb, eb, hb⟩ hne => ⟨b, dxb, eb, b2 b _ (fun z => hne (by rw [eb, z])) (ne_of hb hd (fun z => nomatch z)) hb⟩
        have keepT : ∀ {v : V} {t : Tie}, TieAt H v t → TieAt _ v t := fun {v t} ⟨b, eb, hb⟩ => ⟨b, eb, b2 b _ (ne_of hb h1 (fun z => nomatch z)) (ne_of hb hd (fun z => nomatch z)) hb⟩
        have ntp : tp ≠ n := (ne_of_none (e1 _ _ h1) h02).symm
        have ntd : tp ≠ dt := (ne_of_none (e1 _ _ hd) h02).symm
        refine ⟨⟨dx, upd_same⟩, ⟨kp, b2 dp _ (ne_of h2 h1 (fun z => nomatch z)) h4 h2, Paired.mapP p2 fun kv p ⟨a1, a2⟩ => ⟨a1, keepP a2 ?_⟩⟩, ⟨kvs ++ [(Sum.inl S.next, .ref tp)], by rw [upd_ne nnt.symm]; exact upd_same, Paired.snoc' (Paired.mapP hp fun _ _ ⟨a1, a2⟩ => ⟨a1, keepT a2⟩) ⟨rfl, tp, rfl, ?_⟩⟩, h4⟩
        · obtain ⟨b, dxb, eb, hb'⟩ := a2
          rintro z
          rw [z] at eb
          cases eb
          rw [h1] at hb'
          injection hb' with hb'
          injection hb' with _ _ hb'
          cases hb'
        · rw [upd_ne ntp, upd_ne ntd]
          exact htp
end
end K25
set_option maxRecDepth 100000
namespace K25
open PySem L2
open PyProof.Rows (boot_list boot_int boot_bool boot_tuple boot_str boot_dict boot_all)
def kdS : Kd → Str
  | .house => "house"
  | .listener => "listener"
  | .post => "post"
section
variable {P : Program} {w : World} {K : PySem.W.Frag} {mg : Str → Option Value} {base : Heap}
abbrev s_Post_kind : Stmt := inClass (top 24) 2
theorem sc_Post_kind : FnScope ["self"] ["self"] (defScope s_Post_kind) := ⟨rfl, rfl, rfl, by decide +kernel, rfl, by decide +kernel, by decide +kernel⟩
theorem ok_Post_kind {f : Addr} {fd : FuncData} (F : Fun K "kind" "Post.kind" s_Post_kind f fd) : FnOk P w K mg base CX0 1 f fd ["self"] (sp_const (.str "post")) := by
  refine F.ok sc_Post_kind (fun vs H Q E h => ?_) (fun cdv A outer s H vs Q E hr h => ?_)
  · obtain ⟨v, rfl, _⟩ := h
    rfl
  · obtain ⟨v, rfl, q⟩ := h
    exact ⟨_, (pss_one (ps_ret pe_str)), q⟩
abbrev s_House_kind : Stmt := inClass (top 25) 0
theorem sc_House_kind : FnScope ["self"] ["self"] (defScope s_House_kind) := ⟨rfl, rfl, rfl, by decide +kernel, rfl, by decide +kernel, by decide +kernel⟩
theorem ok_House_kind {f : Addr} {fd : FuncData} (F : Fun K "kind" "House.kind" s_House_kind f fd) : FnOk P w K mg base CX0 1 f fd ["self"] (sp_const (.str "house")) := by
  refine F.ok sc_House_kind (fun vs H Q E h => ?_) (fun cdv A outer s H vs Q E hr h => ?_)
  · obtain ⟨v, rfl, _⟩ := h
    rfl
  · obtain ⟨v, rfl, q⟩ := h
    exact ⟨_, (pss_one (ps_ret pe_str)), q⟩
abbrev s_Listener_kind : Stmt := inClass (top 26) 0
theorem sc_Listener_kind : FnScope ["self"] ["self"] (defScope s_Listener_kind) := ⟨rfl, rfl, rfl, by decide +kernel, rfl, by decide +kernel, by decide +kernel⟩
theorem ok_Listener_kind {f : Addr} {fd : FuncData} (F : Fun K "kind" "Listener.kind" s_Listener_kind f fd) : FnOk P w K mg base CX0 1 f fd ["self"] (sp_const (.str "listener")) := by
  refine F.ok sc_Listener_kind (fun vs H Q E h => ?_) (fun cdv A outer s H vs Q E hr h => ?_)
  · obtain ⟨v, rfl, _⟩ := h
    rfl
  · obtain ⟨v, rfl, q⟩ := h
    exact ⟨_, (pss_one (ps_ret pe_str)), q⟩
def sp_kindC (c : Cl) (C : Addr) : Sp := fun vs H Q _ => ∃ v k, vs = [v] ∧ C = c.of k ∧ Q (.str (kdS k)) H
def sp_twinC (c : Cl) (C : Addr) : Sp := fun vs H Q _ => ∃ (a : Addr) (p : Str × Kd), vs = [.ref a] ∧ C = c.of p.2 ∧ PostAt c H (.ref a) p ∧ ∀ b H', Same H H' → H b = none → PostAt c H' (.ref b) p → Q (.ref b) H'
theorem of_inj {c : Cl} (O : Cl.Ok K c) {k k' : Kd} (h : c.of k = c.of k') : k = k' := by
  cases k <;> cases k' <;> first | rfl | exact absurd h O.ph | exact absurd h O.pl | exact absurd h O.hl | exact absurd h.symm O.ph | exact absurd h.symm O.pl | exact absurd h.symm O.hl
theorem twin_made {c : Cl} {H : Hp} {p : Str × Kd} {Q : VK} (q : ∀ b H', Same H H' → H b = none → PostAt c H' (.ref b) p → Q (.ref b) H') (y dy : Addr) (ny : H y = none) (ndy : H dy = none) :
    Q (.ref y) (upd (upd (upd H dy (.own y)) y (.ins (c.of p.2) dy [])) y (.ins (c.of p.2) dy [("name", .str p.1)])) :=
  q y _ (same_new (same_new (same_upd (Same.refl _) ndy) ny) ny) ny ⟨y, dy, rfl, upd_same⟩
abbrev s_Post_twin : Stmt := inClass (top 24) 5
theorem sc_Post_twin : FnScope ["self"] ["self"] (defScope s_Post_twin) := ⟨rfl, rfl, rfl, by decide +kernel, rfl, by decide +kernel, by decide +kernel⟩
theorem ok_Post_twin {c : Cl} {f : Addr} {fd : FuncData} (F : Fun K "twin" "Post.twin" s_Post_twin f fd) (O : Cl.Ok K c) (D_Post : Dk P w K mg base 1 "Post" c.post ["self", "name"] (sp_pinit c)) : FnOk P w K mg base CX0 3 f fd ["self"] (sp_twinC c c.post) := by
  refine F.ok sc_Post_twin (fun vs H Q E h => ?_) (fun cdv A outer s H vs Q E hr h => ?_)
  · obtain ⟨a, p, rfl, _⟩ := h
    rfl
  · obtain ⟨a, p, rfl, ek, ⟨a', dxa, ea, ha⟩, q⟩ := h
    cases ea
    have ek : p.2 = .post := of_inj O ek.symm
    refine ⟨_, (pss_one (ps_ret (pe_makeD D_Post (hr.mono (by decide)) rfl (pa_cons (fldK K (pv 0) rfl) pa_nil)))), ?_⟩
    refine ⟨_, rfl, a, c.of p.2, dxa, _, _, rfl, ha, O.cls _, O.nam _, rfl, fun y dy ny ndy ne => ⟨y, .post, dy, p.1, rfl, upd_same, rfl, ?_⟩⟩
    have := twin_made q y dy ny ndy
    rw [ek] at this
    exact this
abbrev s_House_twin : Stmt := inClass (top 25) 2
theorem sc_House_twin : FnScope ["self"] ["self"] (defScope s_House_twin) := ⟨rfl, rfl, rfl, by decide +kernel, rfl, by decide +kernel, by decide +kernel⟩
theorem ok_House_twin {c : Cl} {f : Addr} {fd : FuncData} (F : Fun K "twin" "House.twin" s_House_twin f fd) (O : Cl.Ok K c) (D_House : Dk P w K mg base 1 "House" c.house ["self", "name"] (sp_pinit c)) : FnOk P w K mg base CX0 3 f fd ["self"] (sp_twinC c c.house) := by
  refine F.ok sc_House_twin (fun vs H Q E h => ?_) (fun cdv A outer s H vs Q E hr h => ?_)
  · obtain ⟨a, p, rfl, _⟩ := h
    rfl
  · obtain ⟨a, p, rfl, ek, ⟨a', dxa, ea, ha⟩, q⟩ := h
    cases ea
    have ek : p.2 = .house := of_inj O ek.symm
    refine ⟨_, (pss_one (ps_ret (pe_makeD D_House (hr.mono (by decide)) rfl (pa_cons (fldK K (pv 0) rfl) pa_nil)))), ?_⟩
    refine ⟨_, rfl, a, c.of p.2, dxa, _, _, rfl, ha, O.cls _, O.nam _, rfl, fun y dy ny ndy ne => ⟨y, .house, dy, p.1, rfl, upd_same, rfl, ?_⟩⟩
    have := twin_made q y dy ny ndy
    rw [ek] at this
    exact this
abbrev s_Listener_twin : Stmt := inClass (top 26) 2
theorem sc_Listener_twin : FnScope ["self"] ["self"] (defScope s_Listener_twin) := ⟨rfl, rfl, rfl, by decide +kernel, rfl, by decide +kernel, by decide +kernel⟩
theorem ok_Listener_twin {c : Cl} {f : Addr} {fd : FuncData} (F : Fun K "twin" "Listener.twin" s_Listener_twin f fd) (O : Cl.Ok K c) (D_Listener : Dk P w K mg base 1 "Listener" c.lstn ["self", "name"] (sp_pinit c)) : FnOk P w K mg base CX0 3 f fd ["self"] (sp_twinC c c.lstn) := by
  refine F.ok sc_Listener_twin (fun vs H Q E h => ?_) (fun cdv A outer s H vs Q E hr h => ?_)
  · obtain ⟨a, p, rfl, _⟩ := h
    rfl
  · obtain ⟨a, p, rfl, ek, ⟨a', dxa, ea, ha⟩, q⟩ := h
    cases ea
    have ek : p.2 = .listener := of_inj O ek.symm
    refine ⟨_, (pss_one (ps_ret (pe_makeD D_Listener (hr.mono (by decide)) rfl (pa_cons (fldK K (pv 0) rfl) pa_nil)))), ?_⟩
    refine ⟨_, rfl, a, c.of p.2, dxa, _, _, rfl, ha, O.cls _, O.nam _, rfl, fun y dy ny ndy ne => ⟨y, .listener, dy, p.1, rfl, upd_same, rfl, ?_⟩⟩
    have := twin_made q y dy ny ndy
    rw [ek] at this
    exact this
def PostsAt (c : Cl) (H : Hp) (l : Addr) (ps : List (Str × Kd)) : Prop := ∃ xs, H l = some (.lst xs) ∧ Paired (PostAt c H) xs ps
theorem PostsAt.mono {c : Cl} {H H' : Hp} {l : Addr} {ps : List (Str × Kd)} (e : Same H H') (h : PostsAt c H l ps) : PostsAt c H' l ps := let ⟨xs, q1, q2⟩ := h; ⟨xs, e _ _ q1, Paired.mapP q2 fun _ _ z => z.mono e⟩
theorem paired_ofG {α : Type} {F : V → α → Prop} : ∀ {vs : List V} {ts : List α}, vs.length = ts.length → (∀ (i : Nat) v t, vs[i]? = some v → ts[i]? = some t → F v t) → Paired F vs ts
  | [], [], _, _ => .nil
  | v :: vs, t :: ts, h, k => .cons (k 0 v t rfl rfl) (paired_ofG (by simpa using h) fun i v' t' h1 h2 => k (i + 1) v' t' (by simpa using h1) (by simpa using h2))
  | [], _ :: _, h, _ => by cases h
  | _ :: _, [], h, _ => by cases h
def sp_posts (c : Cl) : Sp := fun vs H Q _ => ∃ (n dp dt : Addr) (S : NS), vs = [.ref n] ∧ NetAt c H n dp dt S ∧ S.posts.length ≤ 1000 ∧ ∀ l H', Same H H' → H l = none → PostsAt c H' l S.posts → Q (.ref l) H'
abbrev s_Net_posts : Stmt := inClass (top 27) 10
theorem sc_Net_posts : FnScope ["self"] ["self"] (defScope s_Net_posts) := ⟨rfl, rfl, rfl, by decide +kernel, rfl, by decide +kernel, by decide +kernel⟩
theorem ok_Net_posts {c : Cl} {f : Addr} {fd : FuncData} (F : Fun K "posts" "Net.posts" s_Net_posts f fd) (O : Cl.Ok K c) (D_twin : ∀ C, IsPost c C → Dm P w K mg base 3 C "twin" ["self"] (sp_twinC c C)) : FnOk P w K mg base CX0 4 f fd ["self"] (sp_posts c) := by
  refine F.ok sc_Net_posts (fun vs H Q E h => ?_) (fun cdv A outer s H vs Q E hr h => ?_)
  · obtain ⟨n, dp, dt, S, rfl, _⟩ := h
    rfl
  · obtain ⟨n, dp, dt, S, rfl, N, hz, q⟩ := h
    refine ⟨_, (pss_one (ps_ret (pe_compD rfl (compScope_of (nT := 1) (js := []) (N' := ["post"]) rfl rfl (by kernel_rfl)) (pi_vals (fldK K (pv 0) rfl))
    (fun _ _ _ _ _ => (pg_name (i := 0) (show List.Nodup (["post"] : List Str) by decide +kernel) rfl (by first | exact Or.inl rfl | exact Or.inr rfl)))
    (fun _ _ _ _ _ => pif_nil)
    (fun _ _ _ _ _ => (pe_meth0C (pv 0) D_twin (hr.mono (by decide))))))), ?_⟩
    obtain ⟨dx, h1⟩ := N.ins
    obtain ⟨kvs, hd, hp⟩ := N.posts
    have hl := Paired.length hp
    refine ⟨_, rfl, n, c.net, dx, _, _, rfl, h1, O.cn, O.fp, rfl, dp, kvs, rfl, hd, fun o M hM => ?_⟩
    rw [itv_eq]
    refine compP_dict (fun i H v => ∃ p, S.posts[i]? = some p ∧ PostAt c H v p) (fun i H H' v e ⟨t, a, b⟩ => ⟨t, a, b.mono e⟩) upd_same (by omega) (fun i kv H2 ek e2 => ?_) (fun l H' vs h0 e' hl' vl hv => ?_) (fun i H v l ⟨t, _, b, dxb, eb, hb⟩ ⟨ys, hy⟩ z => ?_) (fun i H v l ys ⟨t, a, b, dxb, eb, hb⟩ nv => ?_)
    · obtain ⟨p, ep, _, a, dxa, ea, ha⟩ := Paired.at hp ek
      have ha2 : H2 a = some (.ins (c.of p.2) dxa [("name", .str p.1)]) := e2 _ _ (by rw [upd_ne (ne_of ha hd (fun z => nomatch z))]; exact ha)
      exact ⟨_, rfl, a, c.of p.2, dxa, _, ea, ⟨_, rfl⟩, ha2, rfl, a, p, by rw [ea], rfl, ⟨a, dxa, rfl, ha2⟩, fun b H' e' h0 pb => ⟨⟨p, ep, pb⟩, e'⟩⟩
    · refine ⟨dp, o, kvs, hM, e' _ _ upd_same, q l _ (same_thaw hd e') ?_ ?_⟩
      · have nl : l ≠ dp := fun z => by rw [z, upd_same] at h0; cases h0
        rw [upd_ne nl] at h0
        exact h0
      · have nl : l ≠ dp := fun z => by rw [z, upd_same] at h0; cases h0
        refine ⟨vs, by rw [upd_ne nl]; exact hl', paired_ofG (by omega) fun i v t hv' ht => ?_⟩
        obtain ⟨⟨t', et, b, dxb, eb, hb⟩, _⟩ := hv i v hv'
        rw [ht] at et
        cases et
        exact ⟨b, dxb, eb, by rw [upd_ne (ne_of hb (e' _ _ upd_same) (fun z => nomatch z))]; exact hb⟩
    · rw [eb] at z
      cases z
      rw [hb] at hy
      cases hy
    · exact ⟨t, a, b, dxb, eb, by rw [upd_ne (fun z => nv (by rw [eb, z]))]; exact hb⟩
end
end K25
set_option maxRecDepth 100000
namespace K25
open PySem L2
open PyProof.Rows (boot_list boot_int boot_bool boot_tuple boot_str boot_dict boot_all)
def BL : Str := " "
def NL : Str := "\n"
def postLine (p : Str × Kd) : Str := Str.join BL [kdS p.2, p.1]
def numS (d : Int) : Str := Str.ofString (toString d)
def tieWords (x y : Str) (d : Int) : List Str := if d = 1 then ["tie", x, y] else ["tie", x, y, numS d]
def tieLine (x y : Str) (d : Int) : Str := Str.join BL (tieWords x y d)
theorem kdS_len : ∀ k, (kdS k).length ≤ 8
  | .house => by decide
  | .listener => by decide
  | .post => by decide
theorem num_len (n : Nat) (h : n < 100) : (numS (n : Int)).length ≤ 2 := by
  have : ∀ n : Fin 100, (numS ((n : Nat) : Int)).length ≤ 2 := by decide +kernel
  exact this ⟨n, h⟩
structure TxtW (mg : Str → Option Value) : Prop where
  n_str : mg "str" = none
  lod : ∃ t, mg "LEFT_OUT_DELAY" = some (.int 1 t)
section
variable {P : Program} {w : World} {K : PySem.W.Frag} {mg : Str → Option Value} {base : Heap}
def sp_post_line (c : Cl) : Sp := fun vs H Q _ => ∃ (a : Addr) (p : Str × Kd), vs = [.ref a] ∧ PostAt c H (.ref a) p ∧ p.1.length ≤ 100 ∧ ∀ H', Same H H' → Q (.str (postLine p)) H'
abbrev s_post_line : Stmt := top 32
theorem sc_post_line : FnScope ["post"] ["post"] (defScope s_post_line) := ⟨rfl, rfl, rfl, by decide +kernel, rfl, by decide +kernel, by decide +kernel⟩
theorem ok_post_line {c : Cl} {f : Addr} {fd : FuncData} (F : Fun K "post_line" "post_line" s_post_line f fd) (O : Cl.Ok K c) (D_kind : ∀ C, IsPost c C → Dm P w K mg base 1 C "kind" ["self"] (sp_kindC c C)) : FnOk P w K mg base CX0 2 f fd ["post"] (sp_post_line c) := by
  refine F.ok sc_post_line (fun vs H Q E h => ?_) (fun cdv A outer s H vs Q E hr h => ?_)
  · obtain ⟨a, p, rfl, _⟩ := h
    rfl
  · obtain ⟨a, p, rfl, ⟨a', dxa, ea, ha⟩, hz, q⟩ := h
    cases ea
    refine ⟨_, (pss_one (ps_ret (bmK K PySem.F.plainAttrs_str PySem.F.slot_str_join PySem.F.type_str_join (mt_join K) pe_str (pa_cons (pe_lstS (pa_cons (pe_meth0C (pv 0) D_kind (hr.mono (by decide))) (pa_cons (fldK K (pv 0) rfl) pa_nil))) pa_nil)))), ?_⟩
    refine ⟨rfl, _, rfl, a, c.of p.2, dxa, _, rfl, ⟨_, rfl⟩, ha, rfl, _, p.2, rfl, rfl, _, rfl, a, c.of p.2, dxa, _, _, rfl, ha, O.cls _, O.nam _, rfl, (by show 2 ≤ sizeLine; decide), fun l H2 e2 h02 hl => ?_⟩
    refine ⟨_, l, [kdS p.2, p.1], rfl, rfl, SqL.of hl, by decide, by show 2 ≤ 1000; decide, fun z hz' => ?_, q H2 e2⟩
    rcases List.mem_cons.mp hz' with rfl | hz'
    · exact Nat.le_trans (kdS_len _) (by decide)
    · rw [List.mem_singleton.mp hz']; exact hz
def sp_tie_line : Sp := fun vs H Q _ => ∃ (x y : Str) (d : Int), vs = [.str x, .str y, .int d] ∧ x.length ≤ 100 ∧ y.length ≤ 100 ∧ 1 ≤ d ∧ d ≤ 99 ∧ ∀ H', Same H H' → Q (.str (tieLine x y d)) H'
abbrev s_tie_line : Stmt := top 33
theorem sc_tie_line : FnScope ["one", "other", "delay", "words"] ["one", "other", "delay"] (defScope s_tie_line) := ⟨rfl, rfl, rfl, by decide +kernel, rfl, by decide +kernel, by decide +kernel⟩
theorem ok_tie_line {f : Addr} {fd : FuncData} (F : Fun K "tie_line" "tie_line" s_tie_line f fd) (T : TxtW mg) : FnOk P w K mg base CX0 1 f fd ["one", "other", "delay"] sp_tie_line := by
  obtain ⟨tl, hg_LEFT_OUT_DELAY⟩ := T.lod
  refine F.ok sc_tie_line (fun vs H Q E h => ?_) (fun cdv A outer s H vs Q E hr h => ?_)
  · obtain ⟨x, y, d, rfl, _⟩ := h
    rfl
  · obtain ⟨x, y, d, rfl, hx, hy, h1, h99, q⟩ := h
    have ND := sc_tie_line.nd
    refine ⟨_, (pss_cons (ps_set (i := 3) ND rfl (by first | exact Or.inl rfl | exact Or.inr rfl) (pe_lst (pa_cons pe_str (pa_cons (pv 0) (pa_cons (pv 1) pa_nil)))))
  (pss_cons (ps_ifJ (pt_cmpR op_ne (pv 2) (pe_glob (v := .int 1) rfl hg_LEFT_OUT_DELAY ⟨_, rfl⟩) (nomark _))
    (pss_one (ps_expr (bmK K PySem.F.plainAttrs_list PySem.F.slot_list_append PySem.F.type_list_append mt_append (pv 3) (pa_cons (pe_callTy call_str_int rfl T.n_str boot_str (pa_cons (pv 2) pa_nil)) pa_nil))))
    pss_nil)
  (pss_one (ps_ret (bmK K PySem.F.plainAttrs_str PySem.F.slot_str_join PySem.F.type_str_join (mt_join K) pe_str (pa_cons (pv 3) pa_nil)))))), ?_⟩
    refine ⟨_, rfl, _, rfl, (by show 3 ≤ sizeLine; decide), fun l hl => ?_⟩
    refine ⟨fun σ H' => σ = [some (.str x), some (.str y), some (.int d), some (.ref l)] ∧ Same H H' ∧ H' l = some (.lst ((tieWords x y d).map V.str)), ?_, ?_⟩
    · rintro σ H' ⟨rfl, e, hl'⟩
      refine ⟨rfl, _, rfl, _, l, tieWords x y d, rfl, rfl, SqL.of hl', by decide, ?_, fun z hz => ?_, q H' e⟩
      · unfold tieWords; split <;> simp
      · have num : (numS d).length ≤ 100 := by
          have := num_len d.toNat (by omega)
          rw [Int.toNat_of_nonneg (by omega)] at this
          omega
        unfold tieWords at hz
        split at hz
        · simp only [List.mem_cons, List.not_mem_nil, or_false] at hz
          rcases hz with rfl | rfl | rfl
          · decide
          · exact hx
          · exact hy
        · simp only [List.mem_cons, List.not_mem_nil, or_false] at hz
          rcases hz with rfl | rfl | rfl | rfl
          · decide
          · exact hx
          · exact hy
          · exact num
    · refine ⟨_, rfl, rfl, _, rfl, ite2 (fun c => ?_) (fun c => ?_)⟩
      · have c : d ≠ 1 := fun z => by rw [z, decide_eq_true rfl] at c; cases c
        refine ⟨_, rfl, .inl ⟨rfl, _, SqL.of upd_same⟩, _, rfl, d, rfl, ?_, l, _, _, rfl, rfl, upd_same, (by show 3 < 2 ^ 24; decide), rfl, ?_, ?_⟩
        · have h2 : d.natAbs ≤ 99 := by omega
          have h3 : d.natAbs.log2 ≤ d.natAbs := Nat.log2_le_self _
          omega
        · rw [upd_upd]; exact same_upd (Same.refl _) hl
        · rw [upd_same]
          unfold tieWords
          rw [if_neg c]
          rfl
      · have c : d = 1 := by
          by_cases z : d = 1
          · exact z
          · exact absurd (by rw [decide_eq_false (fun y => z (by injection y))]; rfl) c
        refine ⟨rfl, same_upd (Same.refl _) hl, ?_⟩
        rw [upd_same]
        unfold tieWords
        rw [if_pos c]
        rfl
end
end K25
set_option maxRecDepth 100000
namespace K25
open PySem L2
open PyProof.Rows (boot_list boot_int boot_bool boot_tuple boot_str boot_dict boot_all)
structure NS.Small (S : NS) : Prop where
  np : S.posts.length ≤ 400
  nt : S.ties.length ≤ 400
  pl : ∀ p ∈ S.posts, p.1.length ≤ 8
  tl : ∀ t ∈ S.ties, t.2.1.length ≤ 8 ∧ t.2.2.1.length ≤ 8 ∧ 1 ≤ t.2.2.2 ∧ t.2.2.2 ≤ 99
def linesOf (S : NS) : List Str := S.posts.map postLine ++ S.ties.map fun t => tieLine t.2.1 t.2.2.1 t.2.2.2
def netText (S : NS) : Str := Str.join NL (linesOf S)
theorem postLine_len {p : Str × Kd} (h : p.1.length ≤ 8) : (postLine p).length ≤ 100 := by
  show (kdS p.2 ++ BL ++ p.1).length ≤ 100
  rw [Str.length_append, Str.length_append]
  have := kdS_len p.2
  have : BL.length = 1 := rfl
  omega
theorem tieLine_len {x y : Str} {d : Int} (hx : x.length ≤ 8) (hy : y.length ≤ 8) (h1 : 1 ≤ d) (h2 : d ≤ 99) : (tieLine x y d).length ≤ 100 := by
  unfold tieLine tieWords
  have hb : BL.length = 1 := rfl
  have ht : (("tie" : Str)).length = 3 := rfl
  have num : (numS d).length ≤ 2 := by
    have := num_len d.toNat (by omega)
    rwa [Int.toNat_of_nonneg (by omega)] at this
  split
  · show (("tie" : Str) ++ BL ++ (x ++ BL ++ y)).length ≤ 100
    simp only [Str.length_append]
    omega
  · show (("tie" : Str) ++ BL ++ (x ++ BL ++ (y ++ BL ++ numS d))).length ≤ 100
    simp only [Str.length_append]
    omega
theorem lines_len {S : NS} (h : S.Small) : ∀ z ∈ linesOf S, z.length ≤ 100 := fun z hz => by
  rcases List.mem_append.mp hz with hz | hz
  · obtain ⟨p, hp, rfl⟩ := List.mem_map.mp hz
    exact postLine_len (h.pl p hp)
  · obtain ⟨t, ht, rfl⟩ := List.mem_map.mp hz
    obtain ⟨a, b, c, d⟩ := h.tl t ht
    exact tieLine_len a b c d
theorem lines_many {S : NS} (h : S.Small) : (linesOf S).length ≤ 800 := by
  unfold linesOf
  rw [List.length_append, List.length_map, List.length_map]
  have := h.np
  have := h.nt
  omega
section
variable {P : Program} {w : World} {K : PySem.W.Frag} {mg : Str → Option Value} {base : Heap}
def sp_net_text (c : Cl) : Sp := fun vs H Q _ => ∃ (n dp dt : Addr) (S : NS), vs = [.ref n] ∧ NetAt c H n dp dt S ∧ S.Small ∧ ∀ H', Same H H' → Q (.str (netText S)) H'
abbrev s_net_text : Stmt := top 34
theorem sc_net_text : FnScope ["net", "lines"] ["net"] (defScope s_net_text) := ⟨rfl, rfl, rfl, by decide +kernel, rfl, by decide +kernel, by decide +kernel⟩
theorem ok_net_text {c : Cl} {f : Addr} {fd : FuncData} (F : Fun K "net_text" "net_text" s_net_text f fd) (O : Cl.Ok K c) (D_Net_posts : Dm P w K mg base 4 c.net "posts" ["self"] (sp_posts c)) (D_Net_ties : Dm P w K mg base 1 c.net "ties" ["self"] (sp_ties c))
    (D_post_line : Df P w K mg base 2 "post_line" ["post"] (sp_post_line c)) (D_tie_line : Df P w K mg base 1 "tie_line" ["one", "other", "delay"] sp_tie_line) : FnOk P w K mg base CX0 5 f fd ["net"] (sp_net_text c) := by
  refine F.ok sc_net_text (fun vs H Q E h => ?_) (fun cdv A outer s H vs Q E hr h => ?_)
  · obtain ⟨n, dp, dt, S, rfl, _⟩ := h
    rfl
  · obtain ⟨n, dp, dt, S, rfl, N, W, q⟩ := h
    have ND := sc_net_text.nd
    have np := W.np
    have nt := W.nt
    obtain ⟨dx, h1⟩ := id N.ins
    refine ⟨_, (pss_cons (ps_setComp (i := 1) ND rfl rfl rfl (compScope_of (nT := 1) (js := []) (N' := ["post"]) rfl rfl (by kernel_rfl)) (pilK K (pe_meth0D (pv 0) D_Net_posts (hr.mono (by decide))))
    (fun _ _ _ _ _ => (pg_name (i := 0) (show List.Nodup (["post"] : List Str) by decide +kernel) rfl (by first | exact Or.inl rfl | exact Or.inr rfl)))
    (fun _ _ _ _ _ => pif_nil)
    (fun _ _ _ _ _ => (pe_callD D_post_line (hr.mono (by decide)) rfl (pa_cons (pv 0) pa_nil))))
  (pss_cons (ps_expr (bmK K PySem.F.plainAttrs_list PySem.F.slot_list_extend PySem.F.type_list_extend mt_extend (pv 1) (pa_cons (pe_comp rfl (compScope_of (nT := 4) (js := []) (N' := ["number", "one", "other", "delay"]) rfl rfl (by kernel_rfl)) (pilK K (pe_meth0D (pv 0) D_Net_ties (hr.mono (by decide))))
    (fun _ _ _ _ _ => (pgtK K (n := 4) rfl (pgs_cons (pg_name (i := 0) (show List.Nodup (["number", "one", "other", "delay"] : List Str) by decide +kernel) rfl (by first | exact Or.inl rfl | exact Or.inr rfl)) (pgs_cons (pg_name (i := 1) (show List.Nodup (["number", "one", "other", "delay"] : List Str) by decide +kernel) rfl (by first | exact Or.inl rfl | exact Or.inr rfl)) (pgs_cons (pg_name (i := 2) (show List.Nodup (["number", "one", "other", "delay"] : List Str) by decide +kernel) rfl (by first | exact Or.inl rfl | exact Or.inr rfl)) (pgs_cons (pg_name (i := 3) (show List.Nodup (["number", "one", "other", "delay"] : List Str) by decide +kernel) rfl (by first | exact Or.inl rfl | exact Or.inr rfl)) pgs_nil))))))
    (fun _ _ _ _ _ => pif_nil)
    (fun _ _ _ _ _ => (pe_callD D_tie_line (hr.mono (by decide)) rfl (pa_cons (pv 1) (pa_cons (pv 2) (pa_cons (pv 3) pa_nil)))))) pa_nil)))
  (pss_one (ps_ret (bmK K PySem.F.plainAttrs_str PySem.F.slot_str_join PySem.F.type_str_join (mt_join K) pe_str (pa_cons (pv 1) pa_nil)))))), ?_⟩
    refine ⟨_, rfl, n, dx, _, rfl, h1, rfl, n, dp, dt, S, rfl, N, by omega, fun lp H1 e1 h01 hlp => ?_⟩
    obtain ⟨xs, hx, hpx⟩ := hlp
    have hxl := Paired.length hpx
    refine ⟨lp, rfl, ⟨_, SqL.of hx⟩, compV_list (K := K) (fun i => .str (postLine (S.posts.getD i ("", .post)))) hx (by omega) (fun i x H2 ex e2 => ?_) (fun l H2 h02 e2 hl => ?_)⟩
    · obtain ⟨p, ep, a, dxa, rfl, ha⟩ := Paired.at hpx ex
      have gd : S.posts.getD i ("", .post) = p := by rw [List.getD_eq_getElem?_getD, ep]; rfl
      rw [gd]
      exact ⟨_, rfl, a, p, rfl, ⟨a, dxa, rfl, e2 _ _ ha⟩, Nat.le_trans (W.pl p (List.mem_of_getElem? ep)) (by decide), fun H' e' => ⟨rfl, e'⟩⟩
    rw [hxl, range_mapG (f := fun p => V.str (postLine p))] at hl
    refine ⟨_, rfl, .inl ⟨rfl, _, SqL.of hl⟩, ?_⟩
    refine ⟨_, rfl, n, dx, _, rfl, (e1.trans e2) _ _ h1, rfl, n, dp, dt, S, rfl, N.mono (e1.trans e2), by omega, fun lt H3 e3 h03 hlt => ?_⟩
    obtain ⟨ys, hy, hpy⟩ := hlt
    have hyl := Paired.length hpy
    refine ⟨lt, rfl, ⟨_, SqL.of hy⟩, compV4_list (K := K) (fun i => .str (tieLine (S.ties.getD i (0, "", "", 1)).2.1 (S.ties.getD i (0, "", "", 1)).2.2.1 (S.ties.getD i (0, "", "", 1)).2.2.2)) hy (by omega) (fun i x ex => ?_) (fun i p x1 x2 x3 x4 H4 ex hp' e4 => ?_) (fun l4 H4 h04 e4 hl4 => ?_)⟩
    · obtain ⟨t, et, p, rfl, hp'⟩ := Paired.at hpy ex
      exact ⟨p, _, _, _, _, rfl, hp'⟩
    · obtain ⟨t, et, p', ep', hp''⟩ := Paired.at hpy ex
      cases ep'
      rw [hp'] at hp''
      cases hp''
      have gd : S.ties.getD i (0, "", "", 1) = t := by rw [List.getD_eq_getElem?_getD, et]; rfl
      rw [gd]
      obtain ⟨a1, a2, a3, a4⟩ := W.tl t (List.mem_of_getElem? et)
      exact ⟨_, rfl, _, rfl, _, rfl, t.2.1, t.2.2.1, t.2.2.2, rfl, by omega, by omega, a3, a4, fun H' e' => ⟨rfl, e'⟩⟩
    rw [hyl, range_mapG (xs := S.ties) (d := (0, "", "", 1)) (f := fun (t : Tie) => V.str (tieLine t.2.1 t.2.2.1 t.2.2.2))] at hl4
    have hl5 := (e3.trans e4) _ _ hl
    refine ⟨l, l4, _, _, rfl, rfl, hl5, hl4, by rw [List.length_map, List.length_map]; show _ ≤ 2 ^ 24; omega, ?_⟩
    have e15 : Same H (upd H4 l (.lst (S.posts.map (fun p => V.str (postLine p)) ++ S.ties.map fun t => V.str (tieLine t.2.1 t.2.2.1 t.2.2.2)))) := same_new (e1.trans (e2.trans (e3.trans e4))) (e1.free h02)
    refine ⟨rfl, _, rfl, _, l, linesOf S, rfl, rfl, SqL.of ?_, by decide, Nat.le_trans (lines_many W) (by decide), lines_len W, q _ e15⟩
    rw [upd_same]
    unfold linesOf
    rw [List.map_append, List.map_map, List.map_map]
    rfl
end
end K25
set_option maxRecDepth 100000
namespace K25
open PySem L2
open PyProof.Rows (boot_list boot_int boot_bool boot_tuple boot_str boot_dict boot_all)
def FIG : Str := "0123456789"
def figIn (x : Str) : Bool := !(Builtin.Str.occurrences FIG x 0 FIG.length 1).isEmpty
structure TxtR (mg : Str → Option Value) : Prop where
  n_len : mg "len" = none
  n_all : mg "all" = none
  n_int : mg "int" = none
  n_enumerate : mg "enumerate" = none
  fig : ∃ t, mg "FIGURES" = some (.str FIG t)
  mof : ∃ t, mg "DELAY_FIGURES" = some (.int 2 t)
  lod : ∃ t, mg "LEFT_OUT_DELAY" = some (.int 1 t)
def isNum (x : Str) : Bool := decide (1 ≤ x.length) && decide (x.length ≤ 2) && ((List.range x.cps.size).map fun i => figIn (sgn x i)).all id && (decide (x = "0") || !decide ((⟨#[x.cps.toList.getD 0 0]⟩ : Str) = "0"))
def numVal (x : Str) : Int := match x.cps.toList with
  | [a] => (a : Int) - 48
  | [a, b] => ((a : Int) - 48) * 10 + ((b : Int) - 48)
  | _ => 0
def NumW (x : Str) : Prop := isNum x = true → ∃ d : Int, 0 ≤ d ∧ d ≤ 99 ∧ x = numS d
theorem numVal_num {d : Int} (h0 : 0 ≤ d) (h1 : d ≤ 99) : numVal (numS d) = d := by
  have : ∀ n : Fin 100, numVal (numS ((n : Nat) : Int)) = ((n : Nat) : Int) := by decide +kernel
  have := this ⟨d.toNat, by omega⟩
  simp only [Int.toNat_of_nonneg h0] at this
  exact this
section
variable {P : Program} {w : World} {K : PySem.W.Frag} {mg : Str → Option Value} {base : Heap}
def sp_iwn : Sp := fun vs H Q _ => ∃ x : Str, vs = [.str x, .int 2] ∧ x.length ≤ 1000 ∧ ∀ H', Same H H' → Q (.bl (isNum x)) H'
abbrev s_is_written_number : Stmt := top 35
theorem sc_is_written_number : FnScope ["word", "most_figures"] ["word", "most_figures"] (defScope s_is_written_number) := ⟨rfl, rfl, rfl, by decide +kernel, rfl, by decide +kernel, by decide +kernel⟩
theorem ok_is_written_number {f : Addr} {fd : FuncData} (F : Fun K "is_written_number" "is_written_number" s_is_written_number f fd) (T : TxtR mg) : FnOk P w K mg base CX0 1 f fd ["word", "most_figures"] sp_iwn := by
  obtain ⟨tl, hg_FIGURES⟩ := T.fig
  refine F.ok sc_is_written_number (fun vs H Q E h => ?_) (fun cdv A outer s H vs Q E hr h => ?_)
  · obtain ⟨x, rfl, _⟩ := h
    rfl
  · obtain ⟨x, rfl, hx, q⟩ := h
    have ND := sc_is_written_number.nd
    refine ⟨_, (pss_cons (ps_if (PW.pt (pw_or (pt_not (pt_chain op_le op_le pe_int (pe_callB call_len_str rfl T.n_len boot_len (pa_cons (pv 0) pa_nil)) (pv 1))) (pw_or1 (pt_not (pt_val (pe_callB (call_allB K rfl) rfl T.n_all boot_all (pa_cons (pe_comp rfl (compScope_of (nT := 1) (js := []) (N' := ["sign"]) rfl rfl (by kernel_rfl)) (pi_str (pv 0))
    (fun _ _ _ _ _ => (pg_name (i := 0) (show List.Nodup (["sign"] : List Str) by decide +kernel) rfl (by first | exact Or.inl rfl | exact Or.inr rfl)))
    (fun _ _ _ _ _ => pif_nil)
    (fun _ _ _ _ _ => (pe_cmpR op_in_str (pv 0) (pe_glob (v := .str FIG) rfl hg_FIGURES ⟨_, rfl⟩) (by with_unfolding_all rfl)))) pa_nil)))))))
    (pss_one (ps_ret pe_bl))
    pss_nil)
  (pss_one (ps_ret (pe_or (pe_cmpR op_eq (pv 0) pe_str (nomark _)) (pe_one (pe_cmpR op_ne (pe_ix ix_str (pv 0) pe_int (fun _ _ => rfl)) pe_str (nomark _))))))), ?_⟩
    have fl : x.cps.size = x.length := rfl
    refine ⟨_, rfl, x, rfl, Nat.le_trans hx (by decide), _, _, rfl, rfl, _, rfl, ite2 (fun g => ?_) (fun g => ?_)⟩
    · have g1 : 1 ≤ x.length := by have := of_decide_eq_true g; omega
      refine ⟨_, rfl, _, _, rfl, rfl, _, rfl, ?_⟩
      by_cases g2 : x.length ≤ 2
      · rw [decide_eq_true (by omega : (x.length : Int) ≤ 2)]
        refine iteF ?_
        refine ⟨_, rfl, x, rfl, compV_str (fun i => .bl (figIn (sgn x i))) (by omega) (fun i H2 hi e => ⟨_, rfl, _, FIG, rfl, rfl, rfl, Same.refl _⟩) (fun l H' hl0 e hl => ?_)⟩
        refine ⟨l, (List.range x.cps.size).map fun i => figIn (sgn x i), rfl, SqL.of (by rw [List.map_map]; exact hl), ?_⟩
        refine ⟨_, rfl, ?_⟩
        cases hb : ((List.range x.cps.size).map fun i => figIn (sgn x i)).all id with
        | false =>
          refine iteT ?_
          have := q H' e
          unfold isNum at this
          rw [hb, Bool.and_false, Bool.false_and] at this
          exact this
        | true =>
          refine iteF ?_
          have fz : x.length ≤ sizeLine := Nat.le_trans hx (by decide)
          have q' : Q (.bl (decide (x = "0") || !decide ((⟨#[x.cps.toList.getD 0 0]⟩ : Str) = "0"))) H' := by
            have := q H' e
            unfold isNum at this
            rw [hb, decide_eq_true g1, decide_eq_true g2] at this
            exact this
          have at0 : atI x.cps.toList 0 = some (x.cps.toList.getD 0 0) := by
            have hl : 0 < x.cps.toList.length := by have : x.cps.toList.length = x.length := by simp [Str.length]
                                                    omega
            have := List.getElem?_eq_getElem hl
            rw [List.getD_eq_getElem?_getD, this]
            show atI x.cps.toList ((0 : Nat) : Int) = _
            unfold atI ixN
            rw [if_pos (by decide), if_pos (by simpa using hl)]
            simpa using this
          refine ⟨_, rfl, rfl, _, rfl, ite2 (fun g => ?_) (fun g => ?_)⟩
          · have g : x = "0" := by have := of_decide_eq_true g; injection this
            rw [decide_eq_true g, Bool.true_or] at q'
            exact q'
          · have g : ¬ x = "0" := fun z => g (decide_eq_true (by rw [z]))
            rw [decide_eq_false g, Bool.false_or] at q'
            refine ⟨_, rfl, x, 0, _, rfl, rfl, fz, at0, rfl, ?_⟩
            have e2 : decide (V.str ⟨#[x.cps.toList.getD 0 0]⟩ = V.str "0") = decide ((⟨#[x.cps.toList.getD 0 0]⟩ : Str) = "0") := by
              rw [Bool.eq_iff_iff, decide_eq_true_iff, decide_eq_true_iff]
              exact ⟨fun z => by injection z, fun z => by rw [z]⟩
            rw [e2]
            exact q'
      · rw [decide_eq_false (by omega : ¬ (x.length : Int) ≤ 2)]
        have := q H (Same.refl _)
        unfold isNum at this
        rw [decide_eq_false g2, Bool.and_false, Bool.false_and, Bool.false_and] at this
        exact iteT (iteT this)
    · have g1 : ¬ 1 ≤ x.length := fun z => g (decide_eq_true (by omega))
      have := q H (Same.refl _)
      unfold isNum at this
      rw [decide_eq_false g1, Bool.false_and, Bool.false_and, Bool.false_and] at this
      exact ⟨_, rfl, iteT (iteT this)⟩
end
end K25
set_option maxRecDepth 100000
namespace K25
open PySem L2
open PyProof.Rows (boot_list boot_int boot_bool boot_tuple boot_str boot_dict boot_all)
def Bad (X : Xc) (Y : Xt) (nl : Addr) (D : Addr) : Prop := (D = X.noName ∨ D = X.taken ∨ D = X.oneHouse ∨ D = X.tooMany) ∨ (D = Y.noPost ∨ D = Y.intoHouse ∨ D = Y.ringMade ∨ D = Y.noNumber ∨ D = Y.tooMany) ∨ D = nl
def AnyE (X : Xc) (Y : Xt) (nl : Addr) (E : XK) (H : Hp) : Prop := ∀ D od H', Bad X Y nl D → Same H H' → E (.ref D) od H'
theorem AnyE.from {X : Xc} {Y : Xt} {nl : Addr} {E : XK} {H H1 : Hp} (h : AnyE X Y nl E H) (e : Same H H1) : AnyE X Y nl E H1 := fun D od H' b e' => h D od H' b (e.trans e')
def POk (S : NS) (k : Kd) (x : Str) : Prop := isName x = true ∧ ¬ x ∈ S.names ∧ ¬ (hrB k = false ∧ S.home.isSome = true) ∧ full S k = false
instance (S : NS) (k : Kd) (x : Str) : Decidable (POk S k x) := by unfold POk; exact inferInstance
theorem due_none {X : Xc} {S : NS} {x : Str} {k : Kd} (h : POk S k x) : due X S x k = none := by
  obtain ⟨h1, h2, h3, h4⟩ := h
  unfold due
  rw [if_neg (by rw [h1]; exact fun z => nomatch z), if_neg h2, if_neg h3, if_neg (by rw [h4]; exact fun z => nomatch z)]
theorem due_some {X : Xc} {Y : Xt} {nl : Addr} {S : NS} {x : Str} {k : Kd} (h : ¬ POk S k x) : ∀ r, due X S x k = some r → Bad X Y nl r := fun r hr => by
  unfold due at hr
  split at hr
  · exact .inl (.inl (Option.some.inj hr).symm)
  · split at hr
    · exact .inl (.inr (.inl (Option.some.inj hr).symm))
    · split at hr
      · exact .inl (.inr (.inr (.inl (Option.some.inj hr).symm)))
      · split at hr
        · exact .inl (.inr (.inr (.inr (Option.some.inj hr).symm)))
        · cases hr
theorem due_bad {X : Xc} {S : NS} {x : Str} {k : Kd} (h : ¬ POk S k x) : due X S x k ≠ none := fun z => by
  apply h
  unfold due at z
  split at z
  · cases z
  · next h1 =>
    split at z
    · cases z
    · next h2 =>
      split at z
      · cases z
      · next h3 =>
        split at z
        · cases z
        · next h4 =>
          refine ⟨?_, h2, h3, ?_⟩
          · cases hb : isName x with
            | true => rfl
            | false => exact absurd hb h1
          · cases hb : full S k with
            | false => rfl
            | true => exact absurd hb h4
def kdOf (z : Str) : Option Kd := if z = "house" then some .house else if z = "listener" then some .listener else if z = "post" then some .post else none
def postR (S : NS) (ws : List Str) : Option NS := match ws with
  | [k, x] => match kdOf k with
    | some kd => if POk S kd x then some (S.put x kd) else none
    | none => none
  | _ => none
def But3 (n dp dt : Addr) (H H' : Hp) : Prop := ∀ a o, a ≠ n → a ≠ dp → a ≠ dt → H a = some o → H' a = some o
theorem But3.of {n dp dt : Addr} {H H' : Hp} (e : Same H H') : But3 n dp dt H H' := fun a o _ _ _ h => e a o h
theorem But3.trans {n dp dt : Addr} {H H1 H2 : Hp} (a : But3 n dp dt H H1) (b : But3 n dp dt H1 H2) : But3 n dp dt H H2 := fun c o n1 n2 n3 h => b c o n1 n2 n3 (a c o n1 n2 n3 h)
theorem rs_any {X : Xc} {Y : Xt} {nl : Addr} {E : XK} {H : Hp} (h : AnyE X Y nl E H) : ∀ r : Er, (∀ k, r ≠ .noSuch k) → Rs Y E H r
  | .noPost z, _ => fun dx H' e _ => h _ _ H' (.inr (.inl (.inl rfl))) e
  | .intoHouse, _ => fun H' e => h _ _ H' (.inr (.inl (.inr (.inl rfl)))) e
  | .ringMade, _ => fun H' e => h _ _ H' (.inr (.inl (.inr (.inr (.inl rfl))))) e
  | .noNumber, _ => fun H' e => h _ _ H' (.inr (.inl (.inr (.inr (.inr (.inl rfl)))))) e
  | .tooMany, _ => fun H' e => h _ _ H' (.inr (.inl (.inr (.inr (.inr (.inr rfl)))))) e
  | .noSuch k, n => absurd rfl (n k)
theorem dueT_no {S : NS} {x y : Str} {d : Int} {r : Er} (h : dueT S x y d = some r) : ∀ k, r ≠ .noSuch k := fun k z => by
  subst z
  unfold dueT at h
  cases hn : dueN S x y with
  | some r =>
    rw [hn] at h
    have : r = .noSuch k := Option.some.inj h
    subst this
    unfold dueN at hn
    split at hn
    · split at hn
      · split at hn
        · split at hn <;> cases hn
        · cases hn
      · cases hn
    · cases hn
  | none =>
    rw [hn] at h
    by_cases h1 : isDelay d = true
    · by_cases h2 : 40 ≤ S.ties.length
      · simp [h1, h2] at h
      · simp [h1, h2] at h
    · simp [h1] at h
section
variable {P : Program} {w : World} {K : PySem.W.Frag} {mg : Str → Option Value} {base : Heap}
abbrev s_NoLine___init__ : Stmt := inClass (top 12) 0
theorem sc_NoLine___init__ : FnScope ["self", "number"] ["self", "number"] (defScope s_NoLine___init__) := ⟨rfl, rfl, rfl, by decide +kernel, rfl, by decide +kernel, by decide +kernel⟩
theorem ok_NoLine_init {C : Addr} {f : Addr} {fd : FuncData} (F : Fun K "__init__" "NoLine.__init__" s_NoLine___init__ f fd) (T : ExcF K C "number") : FnOk P w K mg base CX0 1 f fd ["self", "number"] (sp_exinit C "number") := by
  refine F.ok sc_NoLine___init__ (fun vs H Q E h => ?_) (fun cdv A outer s H vs Q E hr h => ?_)
  · obtain ⟨ea, y, rfl, _⟩ := h
    rfl
  · obtain ⟨ea, y, rfl, he, q⟩ := h
    refine ⟨_, (pss_one (ps_fldE T (pv 0) (pv 1) rfl)), ?_⟩
    exact ⟨_, rfl, _, rfl, ea, rfl, he, q⟩
theorem ok_NoLine_initH {C : Addr} {f : Addr} {fd : FuncData} (F : Fun K "__init__" "NoLine.__init__" s_NoLine___init__ f fd) (T : ExcF K C "number") : FnOkH P w K mg base CX0 1 f fd ["self", "number"] (fun _ => sp_exinit C "number") := by
  refine F.okH sc_NoLine___init__ (fun ea vs H Q E h => ?_) (fun ea cdv A outer s H vs Q E hr h => ?_)
  · obtain ⟨ea, y, rfl, _⟩ := h
    rfl
  · obtain ⟨ea, y, rfl, he, q⟩ := h
    refine ⟨_, (pss_one (ps_fldE T (pv 0) (pv 1) rfl)), ?_⟩
    exact ⟨_, rfl, _, rfl, ea, rfl, he, q⟩
def sp_put_post (c : Cl) (X : Xc) (Y : Xt) (nl : Addr) : Sp := fun vs H Q E => ∃ (n dp dt l : Addr) (S : NS) (ws : List Str), vs = [.ref n, .ref l] ∧ NetAt c H n dp dt S ∧ H l = some (.lst (ws.map V.str)) ∧ S.posts.length ≤ 1000 ∧ (∀ z ∈ ws, z.length ≤ 1000) ∧
  (postR S ws = none → AnyE X Y nl E H) ∧ (∀ S', postR S ws = some S' → ∀ (v : V) H', But3 n dp dt H H' → NetAt c H' n dp dt S' → Q v H')
abbrev s_put_post : Stmt := top 36
theorem sc_put_post : FnScope ["net", "words"] ["net", "words"] (defScope s_put_post) := ⟨rfl, rfl, rfl, by decide +kernel, rfl, by decide +kernel, by decide +kernel⟩
theorem ok_put_post {c : Cl} {X : Xc} {Y : Xt} {nl : Addr} {f : Addr} {fd : FuncData} (F : Fun K "put_post" "put_post" s_put_post f fd) (T : TxtR mg) (D_NoLine : DiX P w K mg base 1 "NoLine" nl ["self", "number"] (sp_exinit nl "number")) (D_Net_house : DmX P w K mg base 4 c.net "house" ["self", "name"] (sp_new c X .house)) (D_Net_listener : DmX P w K mg base 4 c.net "listener" ["self", "name"] (sp_new c X .listener)) (D_Net_post : DmX P w K mg base 4 c.net "post" ["self", "name"] (sp_new c X .post)) :
    FnOk P w K mg base (CXE P w) 5 f fd ["net", "words"] (sp_put_post c X Y nl) := by
  refine F.okX sc_put_post (fun vs H Q E h => ?_) (fun cdv A outer s H vs Q E hr h => ?_)
  · obtain ⟨n, dp, dt, l, S, m, rfl, _⟩ := h
    rfl
  · obtain ⟨n, dp, dt, l, S, ws, rfl, N, hl, hz, hw, q1, q2⟩ := h
    obtain ⟨dx, h1⟩ := id N.ins
    have noline : postR S ws = none → ∀ (ea : Addr), H ea = none → ∀ dy, H dy = none → dy ≠ ea → E (.ref nl) (some dy) (hide ea (upd (upd (upd H ea (excN ea nl)) dy (.xd [("number", .int 0)])) ea (excM ea nl dy))) := fun hb ea hea dy hdy ne => by
      refine q1 hb nl (some dy) _ (.inr (.inr rfl)) (fun b o hb' => ?_)
      rw [hide_ne (ne_of_none hb' hea), upd_ne (ne_of_none hb' hea), upd_ne (ne_of_none hb' hdy), upd_ne (ne_of_none hb' hea)]
      exact hb'
    refine ⟨_, (pss_cons (ps_if (pt_cmpR op_ne (pe_callB (lenK K) rfl T.n_len boot_len (pa_cons (pv 1) pa_nil)) pe_int (nomark _))
    (pss_one (ps_raiseI own_def rfl dict_def rfl D_NoLine (hr.mono (by decide)) (pa_cons pe_int pa_nil)))
    pss_nil)
  (pss_one (ps_ifJ (pt_cmpR op_eq (pe_ix (ixlK K) (pv 1) pe_int (fun _ _ => rfl)) pe_str (nomark _))
    (pss_one (ps_expr (pe_methX on_def (pv 0) D_Net_house (hr.mono (by decide)) (pa_cons (pe_ix (ixlK K) (pv 1) pe_int (fun _ _ => rfl)) pa_nil))))
    (pss_one (ps_ifJ (pt_cmpR op_eq (pe_ix (ixlK K) (pv 1) pe_int (fun _ _ => rfl)) pe_str (nomark _))
    (pss_one (ps_expr (pe_methX on_def (pv 0) D_Net_listener (hr.mono (by decide)) (pa_cons (pe_ix (ixlK K) (pv 1) pe_int (fun _ _ => rfl)) pa_nil))))
    (pss_one (ps_if (pt_cmpR op_eq (pe_ix (ixlK K) (pv 1) pe_int (fun _ _ => rfl)) pe_str (nomark _))
    (pss_one (ps_expr (pe_methX on_def (pv 0) D_Net_post (hr.mono (by decide)) (pa_cons (pe_ix (ixlK K) (pv 1) pe_int (fun _ _ => rfl)) pa_nil))))
    (pss_one (ps_raiseI own_def rfl dict_def rfl D_NoLine (hr.mono (by decide)) (pa_cons pe_int pa_nil)))))))))), ?_⟩
    have sq : SqL K H l (ws.map V.str) := SqL.of hl
    refine ⟨_, rfl, l, _, rfl, .inl sq, rfl, _, rfl, ?_⟩
    have rz : postR S ws = none → ([V.int 0] : List V).length ≤ sizeLine ∧ ∀ ea, H ea = none → sp_exinit nl "number" [.ref ea, .int 0] (upd H ea (excN ea nl)) (fun v H2 => v = .non ∧ ∃ dx, H2 ea = some (excM ea nl dx) ∧ E (.ref nl) (some dx) (hide ea H2)) E0 := fun hb =>
      ⟨by show 1 ≤ sizeLine; decide, fun ea hea => ⟨ea, _, rfl, upd_same, fun dy hdy ne => ⟨rfl, dy, upd_same, noline hb ea hea dy (by rw [upd_ne ne] at hdy; exact hdy) ne⟩⟩⟩
    rcases ws with _ | ⟨k, _ | ⟨x, _ | ⟨y, r⟩⟩⟩
    · exact iteT (rz rfl)
    · exact iteT (rz rfl)
    · refine iteF ?_
      have fin : ∀ kd, kdOf k = some kd → sp_new c X kd [.ref n, .str x] H (fun _ H' => Q .non H') E := fun kd hk => by
        have pr : postR S [k, x] = if POk S kd x then some (S.put x kd) else none := by
          show (match kdOf k with | some kd => if POk S kd x then some (S.put x kd) else none | none => none) = _
          rw [hk]
        refine ⟨n, dp, dt, S, x, rfl, N, hw x (by simp), hz, fun r hr' H' e' => ?_, fun hn H' b' N' => ?_⟩
        · by_cases ok : POk S kd x
          · rw [due_none ok] at hr'; cases hr'
          · exact q1 (by rw [pr, if_neg ok]) r none H' (due_some ok r hr') e'
        · by_cases ok : POk S kd x
          · exact q2 _ (by rw [pr, if_pos ok]) .non H' (fun a o _ n2 _ h => b' a o n2 h) N'
          · exact absurd hn (due_bad ok)
      refine ⟨fun _ H' => Q .non H', fun σ H' h => h, ?_⟩
      refine ⟨_, rfl, l, _, 0, .str k, rfl, rfl, sq, rfl, rfl, _, rfl, ite2 (fun g => ?_) (fun g => ?_)⟩
      · have g : k = "house" := by have := of_decide_eq_true g; injection this
        exact ⟨_, rfl, n, dx, _, rfl, h1, rfl, _, rfl, l, _, 1, .str x, rfl, rfl, sq, rfl, fin .house (by unfold kdOf; rw [if_pos g])⟩
      · have g : ¬ k = "house" := fun z => g (decide_eq_true (by rw [z]))
        refine ⟨fun _ H' => Q .non H', fun σ H' h => h, _, rfl, l, _, 0, .str k, rfl, rfl, sq, rfl, rfl, _, rfl, ite2 (fun g2 => ?_) (fun g2 => ?_)⟩
        · have g2 : k = "listener" := by have := of_decide_eq_true g2; injection this
          exact ⟨_, rfl, n, dx, _, rfl, h1, rfl, _, rfl, l, _, 1, .str x, rfl, rfl, sq, rfl, fin .listener (by unfold kdOf; rw [if_neg g, if_pos g2])⟩
        · have g2 : ¬ k = "listener" := fun z => g2 (decide_eq_true (by rw [z]))
          refine ⟨_, rfl, l, _, 0, .str k, rfl, rfl, sq, rfl, rfl, _, rfl, ite2 (fun g3 => ?_) (fun g3 => ?_)⟩
          · have g3 : k = "post" := by have := of_decide_eq_true g3; injection this
            exact ⟨_, rfl, n, dx, _, rfl, h1, rfl, _, rfl, l, _, 1, .str x, rfl, rfl, sq, rfl, fin .post (by unfold kdOf; rw [if_neg g, if_neg g2, if_pos g3])⟩
          · have g3 : ¬ k = "post" := fun z => g3 (decide_eq_true (by rw [z]))
            refine rz ?_
            show (match kdOf k with | some kd => if POk S kd x then some (S.put x kd) else none | none => none) = _
            have : kdOf k = none := by unfold kdOf; rw [if_neg g, if_neg g2, if_neg g3]
            rw [this]
    · rw [decide_eq_false (show ¬ V.int (((k :: x :: y :: r).map V.str).length : Nat) = V.int 2 from fun z => by
        injection z with z
        simp only [List.map_cons, List.length_cons] at z
        omega)]
      exact iteT (rz rfl)
open Classical in
noncomputable def tieR (S : NS) (ws : List Str) : Option NS := match ws with
  | [_, x, y] => if dueT S x y 1 = none then some (S.tie x y 1) else none
  | [_, x, y, z] => if isNum z = true then (if dueT S x y (numVal z) = none then some (S.tie x y (numVal z)) else none) else none
  | _ => none
def sp_put_tie (c : Cl) (X : Xc) (Y : Xt) (nl : Addr) : Sp := fun vs H Q E => ∃ (n dp dt l : Addr) (S : NS) (ws : List Str), vs = [.ref n, .ref l] ∧ NetAt c H n dp dt S ∧ H l = some (.lst (ws.map V.str)) ∧ S.ties.length ≤ 1000 ∧ (∀ t ∈ S.ties, t.1 < S.next) ∧ (∀ z ∈ ws, z.length ≤ 1000 ∧ NumW z) ∧
  (tieR S ws = none → AnyE X Y nl E H) ∧ (∀ S', tieR S ws = some S' → ∀ (v : V) H', But3 n dp dt H H' → NetAt c H' n dp dt S' → Q v H')
abbrev s_put_tie : Stmt := top 37
theorem sc_put_tie : FnScope ["net", "words"] ["net", "words"] (defScope s_put_tie) := ⟨rfl, rfl, rfl, by decide +kernel, rfl, by decide +kernel, by decide +kernel⟩
theorem ok_put_tie {c : Cl} {X : Xc} {Y : Xt} {nl : Addr} {f : Addr} {fd : FuncData} (F : Fun K "put_tie" "put_tie" s_put_tie f fd) (T : TxtR mg) (D_NoLine : DiX P w K mg base 1 "NoLine" nl ["self", "number"] (sp_exinit nl "number")) (D_Net_tie : DmX P w K mg base 5 c.net "tie" ["self", "one", "other", "delay"] (sp_tie c Y)) (D_is_written_number : Df P w K mg base 1 "is_written_number" ["word", "most_figures"] sp_iwn) :
    FnOk P w K mg base (CXE P w) 6 f fd ["net", "words"] (sp_put_tie c X Y nl) := by
  obtain ⟨tl, hg_LEFT_OUT_DELAY⟩ := T.lod
  obtain ⟨tn, hg_DELAY_FIGURES⟩ := T.mof
  refine F.okX sc_put_tie (fun vs H Q E h => ?_) (fun cdv A outer s H vs Q E hr h => ?_)
  · obtain ⟨n, dp, dt, l, S, m, rfl, _⟩ := h
    rfl
  · obtain ⟨n, dp, dt, l, S, ws, rfl, N, hl, hz, hnum, hw, q1, q2⟩ := h
    obtain ⟨dx, h1⟩ := id N.ins
    have rz : ∀ H0, Same H H0 → tieR S ws = none → ([V.int 0] : List V).length ≤ sizeLine ∧ ∀ ea, H0 ea = none → sp_exinit nl "number" [.ref ea, .int 0] (upd H0 ea (excN ea nl)) (fun v H2 => v = .non ∧ ∃ dx, H2 ea = some (excM ea nl dx) ∧ E (.ref nl) (some dx) (hide ea H2)) E0 := fun H0 e0 hb =>
      ⟨by show 1 ≤ sizeLine; decide, fun ea hea => ⟨ea, _, rfl, upd_same, fun dy hdy ne => ⟨rfl, dy, upd_same, by
        have hdy : H0 dy = none := by rw [upd_ne ne] at hdy; exact hdy
        refine q1 hb nl (some dy) _ (.inr (.inr rfl)) (e0.trans fun b o hb' => ?_)
        rw [hide_ne (ne_of_none hb' hea), upd_ne (ne_of_none hb' hea), upd_ne (ne_of_none hb' hdy), upd_ne (ne_of_none hb' hea)]
        exact hb'⟩⟩⟩
    have fin : ∀ H1 x y d, Same H H1 → (dueT S x y d ≠ none → tieR S ws = none) → (dueT S x y d = none → tieR S ws = some (S.tie x y d)) → sp_tie c Y [.ref n, .str x, .str y, .int d] H1 Q E := fun H1 x y d e1 hb hg => by
      refine ⟨n, dp, dt, S, x, y, d, rfl, N.mono e1, hz, hnum, fun r hr' => rs_any ((q1 (hb (by rw [hr']; exact fun z => nomatch z))).from e1) r (dueT_no hr'), fun hn H' b' N' => q2 _ (hg hn) _ H' (fun a o p1 _ p3 h => b' a o p1 p3 (e1 _ _ h)) N'⟩
    refine ⟨_, (pss_cons (ps_if (pt_cmpR op_eq (pe_callB (lenK K) rfl T.n_len boot_len (pa_cons (pv 1) pa_nil)) pe_int (nomark _))
    (pss_one (ps_ret (pe_methX on_def (pv 0) D_Net_tie (hr.mono (by decide)) (pa_cons (pe_ix (ixlK K) (pv 1) pe_int (fun _ _ => rfl)) (pa_cons (pe_ix (ixlK K) (pv 1) pe_int (fun _ _ => rfl)) (pa_cons (pe_glob (v := .int 1) rfl hg_LEFT_OUT_DELAY ⟨_, rfl⟩) pa_nil))))))
    pss_nil)
  (pss_cons (ps_if (PW.pt (pw_and (pt_cmpR op_eq (pe_callB (lenK K) rfl T.n_len boot_len (pa_cons (pv 1) pa_nil)) pe_int (nomark _)) (pw_and1 (pt_val (pe_callD D_is_written_number (hr.mono (by decide)) rfl (pa_cons (pe_ix (ixlK K) (pv 1) pe_int (fun _ _ => rfl)) (pa_cons (pe_glob (v := .int 2) rfl hg_DELAY_FIGURES ⟨_, rfl⟩) pa_nil)))))))
    (pss_one (ps_ret (pe_methX on_def (pv 0) D_Net_tie (hr.mono (by decide)) (pa_cons (pe_ix (ixlK K) (pv 1) pe_int (fun _ _ => rfl)) (pa_cons (pe_ix (ixlK K) (pv 1) pe_int (fun _ _ => rfl)) (pa_cons (pe_callTy call_int_num rfl T.n_int boot_int (pa_cons (pe_ix (ixlK K) (pv 1) pe_int (fun _ _ => rfl)) pa_nil)) pa_nil))))))
    pss_nil)
  (pss_one (ps_raiseI own_def rfl dict_def rfl D_NoLine (hr.mono (by decide)) (pa_cons pe_int pa_nil))))), ?_⟩
    have sq : SqL K H l (ws.map V.str) := SqL.of hl
    have big : ∀ (m : Int) (k : Nat), (ws.map V.str).length = k → (k : Int) ≠ m → decide (V.int ((ws.map V.str).length : Nat) = V.int m) = false := fun m k hk hm => decide_eq_false fun z => by
      injection z with z
      rw [hk] at z
      exact hm z
    rcases ws with _ | ⟨a, _ | ⟨x, _ | ⟨y, _ | ⟨z, _ | ⟨u, r⟩⟩⟩⟩⟩
    · exact ⟨_, rfl, l, _, rfl, .inl sq, rfl, _, rfl, iteF ⟨_, rfl, l, _, rfl, .inl sq, rfl, _, rfl, iteF (iteF (rz H (Same.refl _) rfl))⟩⟩
    · exact ⟨_, rfl, l, _, rfl, .inl sq, rfl, _, rfl, iteF ⟨_, rfl, l, _, rfl, .inl sq, rfl, _, rfl, iteF (iteF (rz H (Same.refl _) rfl))⟩⟩
    · exact ⟨_, rfl, l, _, rfl, .inl sq, rfl, _, rfl, iteF ⟨_, rfl, l, _, rfl, .inl sq, rfl, _, rfl, iteF (iteF (rz H (Same.refl _) rfl))⟩⟩
    · refine ⟨_, rfl, l, _, rfl, .inl sq, rfl, _, rfl, iteT ?_⟩
      refine ⟨_, rfl, n, dx, _, rfl, h1, rfl, _, rfl, l, _, 1, _, rfl, rfl, sq, rfl, _, rfl, l, _, 2, _, rfl, rfl, sq, rfl, fin H x y 1 (Same.refl _) (fun hb => ?_) (fun hg => ?_)⟩
      · unfold tieR
        exact if_neg hb
      · unfold tieR
        exact if_pos hg
    · refine ⟨_, rfl, l, _, rfl, .inl sq, rfl, _, rfl, iteF ?_⟩
      refine ⟨_, rfl, l, _, rfl, .inl sq, rfl, _, rfl, iteT ?_⟩
      obtain ⟨zl, zn⟩ := hw z (by simp)
      refine ⟨_, rfl, l, _, 3, .str z, rfl, rfl, sq, rfl, z, rfl, zl, fun H1 e1 => ⟨_, rfl, ?_⟩⟩
      cases hn : isNum z with
      | false =>
        refine iteF (rz H1 e1 ?_)
        unfold tieR
        exact if_neg (by rw [hn]; exact fun z => nomatch z)
      | true =>
        refine iteT ?_
        obtain ⟨d, d0, d1, ed⟩ := zn hn
        have sq1 : SqL K H1 l ([a, x, y, z].map V.str) := SqL.of (e1 _ _ hl)
        have hv : numVal z = d := by rw [ed]; exact numVal_num d0 d1
        refine ⟨_, rfl, n, dx, _, rfl, e1 _ _ h1, rfl, _, rfl, l, _, 1, .str x, rfl, rfl, sq1, rfl, _, rfl, l, _, 2, .str y, rfl, rfl, sq1, rfl, _, rfl, l, _, 3, .str z, rfl, rfl, sq1, rfl, d, by rw [ed]; rfl, d0, by omega, fin H1 x y d e1 (fun hb => ?_) (fun hg => ?_)⟩
        · unfold tieR
          refine (if_pos hn).trans ?_
          rw [hv]
          exact if_neg hb
        · unfold tieR
          refine (if_pos hn).trans ?_
          rw [hv]
          exact if_pos hg
    · have hlen : ((a :: x :: y :: z :: u :: r).map V.str).length = r.length + 5 := by simp
      refine ⟨_, rfl, l, _, rfl, .inl sq, rfl, _, rfl, ?_⟩
      rw [big 3 _ hlen (by omega)]
      refine iteF ⟨_, rfl, l, _, rfl, .inl sq, rfl, _, rfl, ?_⟩
      rw [big 4 _ hlen (by omega)]
      exact iteF (iteF (rz H (Same.refl _) rfl))
end
end K25
set_option maxRecDepth 100000
namespace K25
open PySem L2
open PyProof.Rows (boot_list boot_int boot_bool boot_tuple boot_str boot_dict boot_all)
theorem BL_eq : BL = ⟨#[32]⟩ := by decide
theorem NL_eq : NL = ⟨#[10]⟩ := by decide
theorem atI_nat0 {α : Type} {x : α} {xs : List α} : atI (x :: xs) 0 = some x := by
  unfold atI ixN
  rw [if_pos (by decide), if_pos (by simp)]
  rfl
structure LnW (ws : List Str) : Prop where
  ne : ws ≠ []
  few : ws.length ≤ 10
  no : ∀ z ∈ ws, 32 ∉ z.cps.toList ∧ 10 ∉ z.cps.toList
  wl : ∀ z ∈ ws, z.length ≤ 100
  nw : ∀ z ∈ ws, NumW z
def lineS (ws : List Str) : Str := Str.join BL ws
theorem LnW.split {ws : List Str} (h : LnW ws) : Txt.split (lineS ws) ⟨#[32]⟩ = ws := by
  unfold lineS
  rw [BL_eq]
  exact split_join h.ne fun z hz => (h.no z hz).1
theorem LnW.len {ws : List Str} (h : LnW ws) : (lineS ws).length ≤ 2000 := by
  have h1 := join_len BL ws h.wl
  have h3 : ws.length * (100 + BL.length) ≤ 10 * 101 := Nat.mul_le_mul h.few (by decide)
  exact Nat.le_trans h1 (Nat.le_trans h3 (by decide))
theorem mem_join {c s : Nat} : ∀ (zs : List Str), c ≠ s → (∀ z ∈ zs, c ∉ z.cps.toList) → c ∉ (Str.join ⟨#[s]⟩ zs).cps.toList := fun zs hc h hm => by
  cases zs with
  | nil => cases hm
  | cons z r =>
    obtain ⟨z', r', e, e2⟩ := cps_join s (z :: r) (fun z => nomatch z)
    injection e with e3 e4
    subst e3 e4
    rw [e2] at hm
    rcases List.mem_append.mp hm with hm | hm
    · exact h z (by simp) hm
    · obtain ⟨l, hl, hm⟩ := List.mem_flatten.mp hm
      obtain ⟨y, hy, rfl⟩ := List.mem_map.mp hl
      rcases List.mem_cons.mp hm with hm | hm
      · exact hc hm
      · exact h y (by simp [hy]) hm
theorem LnW.line_no {ws : List Str} (h : LnW ws) : 10 ∉ (lineS ws).cps.toList := by
  unfold lineS
  rw [BL_eq]
  exact mem_join _ (by decide) fun z hz => (h.no z hz).2
open Classical in
noncomputable def lineR (S : NS) (ws : List Str) : Option NS := if ws.head? = some ("tie" : Str) then tieR S ws else postR S ws
structure SmallS (S : NS) : Prop where
  np : S.posts.length ≤ 20
  nt : S.ties.length ≤ 40
  num : ∀ t ∈ S.ties, t.1 < S.next
theorem SmallS.tie {S : NS} {x y : Str} {d : Int} (h : SmallS S) (hd : dueT S x y d = none) : SmallS (S.tie x y d) := by
  have hc : S.ties.length < 40 := by
    unfold dueT at hd
    cases hn : dueN S x y with
    | some r => rw [hn] at hd; cases hd
    | none =>
      rw [hn] at hd
      by_cases h1 : isDelay d = true
      · by_cases h2 : 40 ≤ S.ties.length
        · simp [h1, h2] at hd
        · omega
      · simp [h1] at hd
  refine ⟨h.np, ?_, fun t ht => ?_⟩
  · show (S.ties ++ [_]).length ≤ 40
    rw [List.length_append, List.length_singleton]
    omega
  · show t.1 < S.next + 1
    rcases List.mem_append.mp ht with ht | ht
    · have := h.num t ht
      omega
    · have : t = (S.next, x, y, d) := by simpa using ht
      subst this
      show S.next < S.next + 1
      omega
theorem SmallS.line {S S' : NS} {ws : List Str} (h : SmallS S) (hl : lineR S ws = some S') : SmallS S' := by
  unfold lineR at hl
  split at hl
  · unfold tieR at hl
    split at hl
    · split at hl
      · next hd => cases hl; exact h.tie hd
      · cases hl
    · split at hl
      · split at hl
        · next hd => cases hl; exact h.tie hd
        · cases hl
      · cases hl
    · cases hl
  · unfold postR at hl
    split at hl
    · split at hl
      · split at hl
        · next ok =>
          cases hl
          have h4 := ok.2.2.2
          unfold full at h4
          rw [Bool.or_eq_false_iff] at h4
          have := of_decide_eq_false h4.1
          refine ⟨?_, h.nt, h.num⟩
          show (S.posts ++ [_]).length ≤ 20
          rw [List.length_append, List.length_singleton]
          omega
        · cases hl
      · cases hl
    · cases hl
section
variable {P : Program} {w : World} {K : PySem.W.Frag} {mg : Str → Option Value} {base : Heap}
def sp_put_line (c : Cl) (X : Xc) (Y : Xt) (nl : Addr) : Sp := fun vs H Q E => ∃ (n dp dt : Addr) (S : NS) (ws : List Str), vs = [.ref n, .str (lineS ws)] ∧ NetAt c H n dp dt S ∧ LnW ws ∧ SmallS S ∧
  (lineR S ws = none → AnyE X Y nl E H) ∧ (∀ S', lineR S ws = some S' → ∀ (v : V) H', But3 n dp dt H H' → NetAt c H' n dp dt S' → Q v H')
abbrev s_put_line : Stmt := top 38
theorem sc_put_line : FnScope ["net", "line", "words"] ["net", "line"] (defScope s_put_line) := ⟨rfl, rfl, rfl, by decide +kernel, rfl, by decide +kernel, by decide +kernel⟩
theorem ok_put_line {c : Cl} {X : Xc} {Y : Xt} {nl : Addr} {f : Addr} {fd : FuncData} (F : Fun K "put_line" "put_line" s_put_line f fd) (D_put_post : DfX P w K mg base 5 "put_post" ["net", "words"] (sp_put_post c X Y nl)) (D_put_tie : DfX P w K mg base 6 "put_tie" ["net", "words"] (sp_put_tie c X Y nl)) :
    FnOk P w K mg base (CXE P w) 7 f fd ["net", "line"] (sp_put_line c X Y nl) := by
  refine F.okX sc_put_line (fun vs H Q E h => ?_) (fun cdv A outer s H vs Q E hr h => ?_)
  · obtain ⟨n, dp, dt, S, m, rfl, _⟩ := h
    rfl
  · obtain ⟨n, dp, dt, S, ws, rfl, N, W, G, q1, q2⟩ := h
    have ND := sc_put_line.nd
    refine ⟨_, (pss_cons (ps_set (i := 2) ND rfl (by first | exact Or.inl rfl | exact Or.inr rfl) (bmK K PySem.F.plainAttrs_str PySem.F.slot_str_split PySem.F.type_str_split mt_split (pv 1) (pa_cons pe_str pa_nil)))
  (pss_cons (ps_if (pt_cmpR op_eq (pe_ix (ixlK K) (pv 2) pe_int (fun _ _ => rfl)) pe_str (nomark _))
    (pss_one (ps_ret (pe_callX on_def D_put_tie (hr.mono (by decide)) rfl (pa_cons (pv 0) (pa_cons (pv 2) pa_nil)))))
    pss_nil)
  (pss_cons (ps_expr (pe_callX on_def D_put_post (hr.mono (by decide)) rfl (pa_cons (pv 0) (pa_cons (pv 2) pa_nil))))
  (pss_one (ps_ret pe_non))))), ?_⟩
    refine ⟨_, rfl, rfl, lineS ws, _, rfl, rfl, rfl, Nat.le_trans W.len (by decide), fun l H1 e1 h0 hl => ?_⟩
    rw [show Txt.split (lineS ws) (Str.ofString " ") = ws from W.split] at hl
    obtain ⟨a, r, rfl⟩ : ∃ a r, ws = a :: r := by
      cases ws with
      | nil => exact absurd rfl W.ne
      | cons a r => exact ⟨a, r, rfl⟩
    have sq : SqL K H1 l ((a :: r).map V.str) := SqL.of hl
    have np := G.np
    have nt := G.nt
    refine ⟨_, rfl, l, _, 0, .str a, rfl, rfl, sq, atI_nat0, rfl, _, rfl, ite2 (fun g => ?_) (fun g => ?_)⟩
    · have g : a = "tie" := by have := of_decide_eq_true g; injection this
      have e : lineR S (a :: r) = tieR S (a :: r) := if_pos (by rw [g]; rfl)
      rw [e] at q1 q2
      exact ⟨_, rfl, _, rfl, n, dp, dt, l, S, a :: r, rfl, N.mono e1, hl, by omega, G.num, fun z hz => ⟨Nat.le_trans (W.wl z hz) (by decide), W.nw z hz⟩, fun hb => (q1 hb).from e1, fun S' hS v H' b' N' => q2 S' hS v H' ((But3.of e1).trans b') N'⟩
    · have g : ¬ a = "tie" := fun z => g (decide_eq_true (by rw [z]))
      have e : lineR S (a :: r) = postR S (a :: r) := if_neg (fun z => g (Option.some.inj z))
      rw [e] at q1 q2
      exact ⟨_, rfl, _, rfl, n, dp, dt, l, S, a :: r, rfl, N.mono e1, hl, by omega, fun z hz => Nat.le_trans (W.wl z hz) (by decide), fun hb => (q1 hb).from e1, fun S' hS v H' b' N' => q2 S' hS .non H' ((But3.of e1).trans b') N'⟩
end
end K25
set_option maxRecDepth 100000
namespace K25
open PySem L2
open PyProof.Rows (boot_list boot_int boot_bool boot_tuple boot_str boot_dict boot_all)
def S0 : NS := ⟨[], [], 0⟩
noncomputable def runL : NS → Nat → List (List Str) → Sum Nat NS
  | S, _, [] => .inr S
  | S, i, ws :: ls => match lineR S ws with
    | none => .inl i
    | some S' => runL S' (i + 1) ls
def textL (ls : List (List Str)) : Str := Str.join NL (ls.map lineS)
structure LsW (ls : List (List Str)) : Prop where
  ln : ∀ ws ∈ ls, LnW ws
  ne : ls ≠ []
  few : ls.length ≤ 60
  tx : textL ls ≠ ""
theorem join_len2 (sep : Str) : ∀ (zs : List Str), (∀ z ∈ zs, z.length ≤ 2000) → (Str.join sep zs).length ≤ zs.length * (2000 + sep.length)
  | [], _ => by show (Str.empty).length ≤ _; simp [Str.empty, Str.length]
  | [z], h => by show z.length ≤ _; have := h z (by simp); simp; omega
  | z :: y :: r, h => by
    show (z ++ sep ++ Str.join sep (y :: r)).length ≤ _
    rw [Str.length_append, Str.length_append]
    have h1 := join_len2 sep (y :: r) fun x hx => h x (by simp at hx; simp [hx])
    have h2 := h z (by simp)
    rw [show (z :: y :: r).length = (y :: r).length + 1 from rfl, Nat.add_mul]
    omega
theorem LsW.split {ls : List (List Str)} (h : LsW ls) : Txt.split (textL ls) ⟨#[10]⟩ = ls.map lineS := by
  unfold textL
  rw [NL_eq]
  refine split_join (fun z => h.ne (List.map_eq_nil_iff.mp z)) fun z hz => ?_
  obtain ⟨ws, hw, rfl⟩ := List.mem_map.mp hz
  exact (h.ln ws hw).line_no
theorem LsW.len {ls : List (List Str)} (h : LsW ls) : (textL ls).length ≤ 200000 := by
  have h1 := join_len2 NL (ls.map lineS) fun z hz => by
    obtain ⟨ws, hw, rfl⟩ := List.mem_map.mp hz
    exact (h.ln ws hw).len
  rw [List.length_map] at h1
  have h2 : ls.length * (2000 + NL.length) ≤ 60 * 2001 := Nat.mul_le_mul h.few (by decide)
  exact Nat.le_trans h1 (Nat.le_trans h2 (by decide))
structure TxtE (K : PySem.W.Frag) (mg : Str → Option Value) (X : Xc) (Y : Xt) (nl aE : Addr) : Prop where
  n_enumerate : mg "enumerate" = none
  c_PostError : mg "PostError" = some (.ref aE)
  em : ∀ D, Bad X Y nl D → PySem.W.exmOne K (.ref D) (.ref aE) = some true
  mb : ∀ D, Bad X Y nl D → PySem.W.mroIn K D (.type "BaseException") = some true
section
variable {P : Program} {w : World} {K : PySem.W.Frag} {mg : Str → Option Value} {base : Heap}
def sp_read_net (c : Cl) (nl : Addr) : Sp := fun vs H Q E => (∃ ls, vs = [.str (textL ls)] ∧ LsW ls ∧ (∀ S, runL S0 0 ls = .inr S → ∀ n dp dt H', Same H H' → H n = none → H dp = none → H dt = none → NetAt c H' n dp dt S → Q (.ref n) H') ∧
  (∀ i : Nat, runL S0 0 ls = .inl i → ∀ dx H', Same H H' → H' dx = some (.xd [("number", .int i)]) → E (.ref nl) (some dx) H')) ∨ (vs = [.str ""] ∧ ∀ n dp dt H', Same H H' → H n = none → H dp = none → H dt = none → NetAt c H' n dp dt S0 → Q (.ref n) H')
abbrev s_read_net : Stmt := top 39
theorem sc_read_net : FnScope ["text", "net", "number", "line", "error"] ["text"] (defScope s_read_net) := ⟨rfl, rfl, rfl, by decide +kernel, rfl, by decide +kernel, by decide +kernel⟩
theorem ok_read_net {c : Cl} {X : Xc} {Y : Xt} {nl aE : Addr} {f : Addr} {fd : FuncData} (F : Fun K "read_net" "read_net" s_read_net f fd) (T : TxtE K mg X Y nl aE) (D_Net : Dk P w K mg base 1 "Net" c.net ["self"] (sp_ninit c)) (D_put_line : DfX P w K mg base 7 "put_line" ["net", "line"] (sp_put_line c X Y nl)) (DH_NoLine : DiH P w K mg base 1 "NoLine" nl ["self", "number"] (fun _ => sp_exinit nl "number")) :
    FnOk P w K mg base (CXC P w) 8 f fd ["text"] (sp_read_net c nl) := by
  refine F.okC sc_read_net (fun vs H Q E h => ?_) (fun cdv A outer s H vs Q E hr h => ?_)
  · rcases h with ⟨ls, rfl, _⟩ | ⟨rfl, _⟩ <;> rfl
  · have ND := sc_read_net.nd
    obtain ⟨tx, rfl⟩ : ∃ tx : Str, vs = [.str tx] := by
      rcases h with ⟨ls, rfl, _⟩ | ⟨rfl, _⟩
      · exact ⟨_, rfl⟩
      · exact ⟨_, rfl⟩
    refine ⟨_, (pss_cons (ps_set (i := 1) ND rfl (by first | exact Or.inl rfl | exact Or.inr rfl) (pe_make0D D_Net (hr.mono (by decide)) rfl))
  (pss_cons (ps_if (pt_cmpR op_eq (pv 0) pe_str (nomark _))
    (pss_one (ps_ret (pv 1)))
    pss_nil)
  (pss_cons (ps_for PassesOwn.leaving rfl (pi_enum K rfl T.n_enumerate (pa_cons (bmK K PySem.F.plainAttrs_str PySem.F.slot_str_split PySem.F.type_str_split mt_split (pv 0) (pa_cons pe_str pa_nil)) pa_nil)) (pgtK K (n := 2) rfl (pgs_cons (pg_name (i := 2) ND rfl (by first | exact Or.inl rfl | exact Or.inr rfl)) (pgs_cons (pg_name (i := 3) ND rfl (by first | exact Or.inl rfl | exact Or.inr rfl)) pgs_nil)))
    (pss_one (ps_tryF (i := 4) ⟨rfl, rfl, rfl⟩ ND rfl rfl rfl T.c_PostError held_def (fun _ => PassesOwnAt.leaving) rfl DH_NoLine (hr.mono (by decide))
    (fun _ _ => (pss_one (ps_expr (pe_callX on_try D_put_line (hr.mono (by decide)) rfl (pa_cons (pv 1) (pa_cons (pv 3) pa_nil))))))
    (fun _ _ => (pa_cons (pv 2) pa_nil)))))
  (pss_one (ps_ret (pv 1)))))), ?_⟩
    intro n dx hn hdx nd
    refine ⟨n, dx, rfl, upd_same, fun dp dt H1 p1 p2 p3 b1 hi hp ht => ⟨rfl, ?_⟩⟩
    have x1 : dp ≠ n := fun z => by rw [z, upd_same] at p1; cases p1
    have x2 : dt ≠ n := fun z => by rw [z, upd_same] at p2; cases p2
    have y1 : dp ≠ dx := fun z => by rw [upd_ne x1, z, upd_same] at p1; cases p1
    have y2 : dt ≠ dx := fun z => by rw [upd_ne x2, z, upd_same] at p2; cases p2
    have p1 : H dp = none := by rw [upd_ne x1, upd_ne y1] at p1; exact p1
    have p2 : H dt = none := by rw [upd_ne x2, upd_ne y2] at p2; exact p2
    have e1 : Same H H1 := fun a o ha => b1 a o (ne_of_none ha hn) (by rw [upd_ne (ne_of_none ha hn), upd_ne (ne_of_none ha hdx)]; exact ha)
    have N1 : NetAt c H1 n dp dt S0 := ⟨⟨dx, hi⟩, ⟨[], hp, .nil⟩, ⟨[], ht, .nil⟩, p3⟩
    refine ⟨_, rfl, rfl, _, rfl, ?_⟩
    rcases h with ⟨ls, e, W, q1, q2⟩ | ⟨e, q⟩
    case inr =>
      have e : tx = "" := by injection e with e; injection e
      subst e
      exact iteT ⟨_, rfl, q n dp dt H1 e1 hn p1 p2 N1⟩
    case inl =>
      have e : tx = textL ls := by injection e with e; injection e
      subst e
      rw [decide_eq_false (fun z => W.tx (by injection z))]
      refine iteF ?_
      refine ⟨_, rfl, rfl, textL ls, _, rfl, rfl, rfl, W.len, fun L H2 e2 h0 hL => ?_⟩
      rw [show Txt.split (textL ls) (Str.ofString "\n") = ls.map lineS from W.split] at hL
      refine ⟨L, _, rfl, hL, ?_⟩
      have nL1 : L ≠ n := (ne_of_none hi h0).symm
      have nL2 : L ≠ dp := (ne_of_none hp h0).symm
      have nL3 : L ≠ dt := (ne_of_none ht h0).symm
      refine for_enum (xs := (ls.map lineS).map V.str) (fun i σ H' => ∃ a b S, σ = [some (.str (textL ls)), some (.ref n), a, b, none] ∧ Same H H' ∧ H' L = some (.lst ((ls.map lineS).map V.str)) ∧ NetAt c H' n dp dt S ∧ SmallS S ∧ runL S0 0 ls = runL S i (ls.drop i))
        ⟨none, none, S0, rfl, e1.trans e2, hL, N1.mono e2, ⟨by decide, by decide, fun t ht => by cases ht⟩, rfl⟩ (fun i σ H' _ h => by obtain ⟨_, _, _, _, _, h, _⟩ := h; exact SqL.of h) ?_ ?_
      · rintro i x T' σ H3 ex ⟨a, b, S, rfl, e3, hL3, N3, G3, r3⟩ hT
        rw [List.map_map, List.getElem?_map] at ex
        obtain ⟨ws, em, rfl⟩ := Option.map_eq_some_iff.mp ex
        have hd : ls.drop i = ws :: ls.drop (i + 1) := by
          obtain ⟨hi', e'⟩ := List.getElem?_eq_some_iff.mp em
          rw [List.drop_eq_getElem_cons hi', e']
        rw [hd] at r3
        have W1 := W.ln ws (List.mem_of_getElem? em)
        have eT : Same H3 (upd H3 T' (.tup [.int i, .str (lineS ws)])) := same_upd (Same.refl _) hT
        have eT : Same H3 (upd H3 T' (.tup [.int i, (V.str ∘ lineS) ws])) := eT
        generalize upd H3 T' (.tup [.int i, (V.str ∘ lineS) ws]) = H4 at eT ⊢
        refine ⟨_, rfl, _, rfl, n, dp, dt, S, ws, rfl, N3.mono eT, W1, G3, fun hb D od H5 bad e5 => ?_, fun S' hS v H5 b5 N5 => ?_⟩
        · refine ⟨T.em D bad, ⟨D, rfl, T.mb D bad⟩, fun ea hea => ⟨_, rfl, (by show 1 ≤ sizeLine; decide), upd_same, fun na hna => ⟨na, _, rfl, upd_same, fun dy hdy ne => ⟨rfl, dy, upd_same, ?_, ?_⟩⟩⟩⟩
          · have n1 : ea ≠ na := fun z => by rw [← z, upd_same] at hna; cases hna
            have n2 : ea ≠ dy := fun z => by rw [← z, upd_ne n1, upd_same] at hdy; cases hdy
            rw [upd_ne n1, upd_ne n2, upd_ne n1, upd_same]
          · have n1 : ea ≠ na := fun z => by rw [← z, upd_same] at hna; cases hna
            have n2 : ea ≠ dy := fun z => by rw [← z, upd_ne n1, upd_same] at hdy; cases hdy
            have hna5 : H5 na = none := by rw [upd_ne n1.symm] at hna; exact hna
            have hdy5 : H5 dy = none := by rw [upd_ne ne, upd_ne n2.symm] at hdy; exact hdy
            refine q2 i ?_ dy _ (fun y o hy => ?_) ?_
            · rw [r3]
              show (match lineR S ws with | none => Sum.inl i | some S' => runL S' (i + 1) (ls.drop (i + 1))) = _
              rw [hb]
            · have hy5 := e5 _ _ (eT _ _ (e3 _ _ hy))
              rw [hide_ne (ne_of_none hy5 hna5), upd_ne (ne_of_none hy5 hna5), upd_ne (ne_of_none hy5 hdy5), upd_ne (ne_of_none hy5 hna5), upd_ne (ne_of_none hy5 hea)]
              exact hy5
            · rw [hide_ne ne, upd_ne ne]
              exact upd_same
        · refine ⟨_, _, S', rfl, fun y o hy => b5 y o (ne_of_none hy hn) (ne_of_none hy p1) (ne_of_none hy p2) (eT _ _ (e3 _ _ hy)), b5 L _ nL1 nL2 nL3 (eT _ _ hL3), N5, G3.line hS, ?_⟩
          rw [r3]
          show (match lineR S ws with | none => Sum.inl i | some S' => runL S' (i + 1) (ls.drop (i + 1))) = _
          rw [hS]
      · rintro σ H3 ⟨a, b, S, rfl, e3, _, N3, _, r3⟩
        rw [List.length_map, List.length_map, List.drop_length] at r3
        exact ⟨_, rfl, q1 S r3 n dp dt H3 e3 hn p1 p2 N3⟩
end
end K25
set_option maxRecDepth 100000
namespace L2
end L2
namespace K25
open PySem L2
open PyProof.Rows (boot_list boot_int boot_bool boot_tuple boot_str boot_dict boot_all)
theorem boot_ValueError : bootBuiltins "ValueError" = some (.type "ValueError") := by decide +kernel
structure TxtF (K : PySem.W.Frag) (mg : Str → Option Value) (X : Xc) (Y : Xt) (nl aE : Addr) : Prop where
  n_isinstance : mg "isinstance" = none
  n_ValueError : mg "ValueError" = none
  c_PostError : mg "PostError" = some (.ref aE)
  c_NoLine : mg "NoLine" = some (.ref nl)
  c_IntoHouse : mg "IntoHouse" = some (.ref Y.intoHouse)
  c_NoName : mg "NoName" = some (.ref X.noName)
  c_NoPost : mg "NoPost" = some (.ref Y.noPost)
  c_NoSuch : mg "NoSuch" = some (.ref Y.noSuch)
  c_RingMade : mg "RingMade" = some (.ref Y.ringMade)
  c_TooMany : mg "TooMany" = some (.ref Y.tooMany)
  em : PySem.W.exmOne K (.ref nl) (.ref aE) = some true
  k1 : PySem.W.kitOne K (.ref nl) (.ref nl) = some true
  kv : PySem.W.kitOne K (.ref nl) (.type "ValueError") = some true
  ka : PySem.W.kitAny K (.ref nl) [.ref Y.intoHouse, .ref X.noName, .ref Y.noPost, .ref Y.noSuch, .ref Y.ringMade, .ref Y.tooMany] = some false
  fa : ExcA K nl "number"
def faultK : Sum Nat NS → List (Option Key)
  | .inr _ => [some (.inr "read"), none]
  | .inl i => [some (.inr "line"), some (.inl i)]
section
variable {P : Program} {w : World} {K : PySem.W.Frag} {mg : Str → Option Value} {base : Heap}
def sp_Lfault : Sp := fun vs H Q _ => ∃ ls, vs = [.str (textL ls)] ∧ LsW ls ∧ ∀ tp H', Same H H' → H' tp = some (.tup ((faultK (runL S0 0 ls)).map oV)) → Q (.ref tp) H'
abbrev s_Lfault : Stmt := top 44
theorem sc_Lfault : FnScope ["_law_text", "_law_found", "e", "_law_others"] ["_law_text"] (defScope s_Lfault) := ⟨rfl, rfl, rfl, by decide +kernel, rfl, by decide +kernel, by decide +kernel⟩
theorem ok_Lfault {c : Cl} {X : Xc} {Y : Xt} {nl aE : Addr} {f : Addr} {fd : FuncData} (F : Fun K "_law_fault" "_law_fault" s_Lfault f fd) (T : TxtF K mg X Y nl aE) (D_read_net : DfC P w K mg base 8 "read_net" ["text"] (sp_read_net c nl)) : FnOk P w K mg base CX0 9 f fd ["_law_text"] sp_Lfault := by
  refine F.ok sc_Lfault (fun vs H Q E h => ?_) (fun cdv A outer s H vs Q E hr h => ?_)
  · obtain ⟨ls, rfl, _⟩ := h
    rfl
  · obtain ⟨ls, rfl, W, q⟩ := h
    have ND := sc_Lfault.nd
    refine ⟨_, (pss_cons (ps_set (i := 1) ND rfl (by first | exact Or.inl rfl | exact Or.inr rfl) (pe_tupS (pa_cons pe_str (pa_cons pe_non pa_nil))))
  (pss_cons (ps_tryC (i := 2) ⟨rfl, rfl, rfl⟩ ND rfl rfl rfl T.c_PostError
    (fun _ _ => (pss_one (ps_expr (pe_callC on_tryC D_read_net (hr.mono (by decide)) rfl (pa_cons (pv 0) pa_nil)))))
    (fun _ _ => (pss_cons (ps_set (i := 1) ND rfl (by first | exact Or.inl rfl | exact Or.inr rfl) (pe_tupS (pa_cons pe_str (pa_cons pe_non pa_nil))))
  (pss_cons (ps_set (i := 3) ND rfl (by first | exact Or.inl rfl | exact Or.inr rfl) (pe_callB (isiTc K) rfl T.n_isinstance boot_isinstance (pa_cons (pv 2) (pa_cons (pe_tupS (pa_cons (pe_glob (v := .ref _) rfl T.c_IntoHouse rfl) (pa_cons (pe_glob (v := .ref _) rfl T.c_NoName rfl) (pa_cons (pe_glob (v := .ref _) rfl T.c_NoPost rfl) (pa_cons (pe_glob (v := .ref _) rfl T.c_NoSuch rfl) (pa_cons (pe_glob (v := .ref _) rfl T.c_RingMade rfl) (pa_cons (pe_glob (v := .ref _) rfl T.c_TooMany rfl) pa_nil))))))) pa_nil))))
  (pss_one (ps_ifJ (PW.pt (pw_and (pt_val (pe_callB (isiEc K) rfl T.n_isinstance boot_isinstance (pa_cons (pv 2) (pa_cons (pe_glob (v := .ref _) rfl T.c_NoLine rfl) pa_nil)))) (pw_and (pt_val (pe_callB (isiEc K) rfl T.n_isinstance boot_isinstance (pa_cons (pv 2) (pa_cons (pe_bltn (v := .ty "ValueError") rfl T.n_ValueError boot_ValueError rfl) pa_nil)))) (pw_and1 (pt_not (pt_val (pv 3)))))))
    (pss_one (ps_set (i := 1) ND rfl (by first | exact Or.inl rfl | exact Or.inr rfl) (pe_tupS (pa_cons pe_str (pa_cons (fldCK K (pv 2) rfl) pa_nil)))))
    pss_nil))))))
  (pss_one (ps_ret (pv 1))))), ?_⟩
    refine ⟨(by show 2 ≤ sizeLine; decide), fun t0 H1 e1 h01 ht0 => ?_⟩
    refine ⟨_, rfl, .inl ⟨ls, rfl, W, fun S hS n dp dt H2 e2 _ _ _ _ => ?_, fun i hi dx H2 e2 hd => ?_⟩⟩
    · refine ⟨_, rfl, q t0 H2 (e1.trans e2) ?_⟩
      rw [hS]
      exact e2 _ _ ht0
    · refine ⟨T.em, fun ea hea => ?_⟩
      have e3 : Same H (upd H2 ea (excC ea (.ref nl) (some dx))) := same_upd (e1.trans e2) hea
      have he3 : upd H2 ea (excC ea (.ref nl) (some dx)) ea = some (excC ea (.ref nl) (some dx)) := upd_same
      have hd3 : upd H2 ea (excC ea (.ref nl) (some dx)) dx = some (.xd [("number", .int i)]) := by rw [upd_ne (ne_of_none hd hea)]; exact hd
      generalize upd H2 ea (excC ea (.ref nl) (some dx)) = H3 at e3 he3 hd3 ⊢
      refine ⟨(by show 2 ≤ sizeLine; decide), fun t1 H4 e4 h04 ht1 => ?_⟩
      refine ⟨_, rfl, (by show 6 ≤ sizeLine; decide), fun t2 H5 e5 h05 ht2 => ?_⟩
      have e35 := e4.trans e5
      refine ⟨ea, nl, t2, some dx, [Y.intoHouse, X.noName, Y.noPost, Y.noSuch, Y.ringMade, Y.tooMany], false, rfl, e35 _ _ he3, T.fa.k, ht2, T.ka, ?_⟩
      refine ⟨_, fun _ _ h => h, ?_⟩
      refine ⟨_, rfl, ea, nl, some dx, _, true, rfl, e35 _ _ he3, T.fa.k, .inl ⟨_, rfl, T.k1⟩, _, rfl, iteT ?_⟩
      refine ⟨_, rfl, ea, nl, some dx, _, true, rfl, e35 _ _ he3, T.fa.k, .inr ⟨_, rfl, T.kv⟩, _, rfl, iteT ?_⟩
      refine ⟨_, rfl, _, rfl, iteT ?_⟩
      refine ⟨_, rfl, ea, nl, dx, _, .int i, rfl, e35 _ _ he3, e35 _ _ hd3, T.fa, rfl, (by show 2 ≤ sizeLine; decide), fun t6 H6 e6 h06 ht6 => ⟨_, rfl, q t6 H6 (e3.trans (e35.trans e6)) ?_⟩⟩
      rw [hi]
      exact ht6
end
end K25
set_option maxRecDepth 100000
namespace K25
open PySem L2
open PyProof.Rows (boot_list boot_int boot_bool boot_tuple boot_str boot_dict boot_all)
def Up (ln : List Str) (x y : Str) : Prop := ∃ u v : Nat, u < v ∧ ln[u]? = some x ∧ ln[v]? = some y
theorem at_inj {ln : List Str} (nd : ln.Nodup) {u v : Nat} {x : Str} (h1 : ln[u]? = some x) (h2 : ln[v]? = some x) : u = v := by
  obtain ⟨a1, b1⟩ := List.getElem?_eq_some_iff.mp h1
  obtain ⟨a2, b2⟩ := List.getElem?_eq_some_iff.mp h2
  exact (List.getElem_inj nd).mp (b1.trans b2.symm)
theorem leads_up {ln : List Str} (nd : ln.Nodup) {ts : List Tie} (h : ∀ t ∈ ts, Up ln t.2.1 t.2.2.1) {y x : Str} {v : Nat} (hy : ln[v]? = some y) (L : Leads ts y x) : ∃ w, v ≤ w ∧ ln[w]? = some x := by
  induction L with
  | refl => exact ⟨v, Nat.le_refl _, hy⟩
  | step ht _ ih =>
    obtain ⟨w, hw, e⟩ := ih
    obtain ⟨u', v', a, b, c⟩ := h _ ht
    have := at_inj nd e b
    subst this
    exact ⟨v', by omega, c⟩
theorem not_leads {ln : List Str} (nd : ln.Nodup) {ts : List Tie} (h : ∀ t ∈ ts, Up ln t.2.1 t.2.2.1) {x y : Str} (hu : Up ln x y) : ¬ Leads ts y x := fun L => by
  obtain ⟨u, v, a, b, c⟩ := hu
  obtain ⟨w, hw, e⟩ := leads_up nd h c L
  have := at_inj nd b e
  omega
theorem lineR_tie {S : NS} {a : Str} {r : List Str} (h : a = "tie") : lineR S (a :: r) = tieR S (a :: r) := if_pos (by rw [h]; rfl)
theorem lineR_post {S : NS} {a : Str} {r : List Str} (h : ¬ a = "tie") : lineR S (a :: r) = postR S (a :: r) := if_neg (fun z => h (Option.some.inj z))
theorem runL_append (S : NS) (i : Nat) (l1 l2 : List (List Str)) : runL S i (l1 ++ l2) = match runL S i l1 with
    | .inl j => .inl j
    | .inr S' => runL S' (i + l1.length) l2 := by
  induction l1 generalizing S i with
  | nil => rfl
  | cons ws l1 ih =>
    show (match lineR S ws with | none => Sum.inl i | some S' => runL S' (i + 1) (l1 ++ l2)) = match (match lineR S ws with | none => Sum.inl i | some S' => runL S' (i + 1) l1) with | .inl j => .inl j | .inr S' => runL S' (i + (ws :: l1).length) l2
    cases hl : lineR S ws with
    | none => rfl
    | some S' =>
      show runL S' (i + 1) (l1 ++ l2) = match runL S' (i + 1) l1 with | .inl j => .inl j | .inr S' => runL S' (i + (ws :: l1).length) l2
      rw [ih]
      rw [show i + (ws :: l1).length = i + 1 + l1.length by rw [List.length_cons]; omega]
theorem run_snoc {S : NS} {ls : List (List Str)} {ws : List Str} {S1 S2 : NS} (h : runL S 0 ls = .inr S1) (hl : lineR S1 ws = some S2) : runL S 0 (ls ++ [ws]) = .inr S2 := by
  rw [runL_append, h]
  show (match lineR S1 ws with | none => Sum.inl (0 + ls.length) | some S' => runL S' (0 + ls.length + 1) []) = _
  rw [hl]
  rfl
theorem run_stop {S : NS} {ls l2 : List (List Str)} {ws : List Str} {S1 : NS} (h : runL S 0 ls = .inr S1) (hl : lineR S1 ws = none) : runL S 0 (ls ++ ws :: l2) = .inl ls.length := by
  rw [runL_append, h]
  show (match lineR S1 ws with | none => Sum.inl (0 + ls.length) | some S' => runL S' (0 + ls.length + 1) l2) = _
  rw [hl, Nat.zero_add]
def NM : List Str := ["a", "b", "c", "ab", "house", "tie", "post", "ba"]
theorem NM_nd : NM.Nodup := by decide +kernel
theorem NM_name : ∀ x ∈ NM, isName x = true := by decide +kernel
structure Facts (nm : List Str) (S : NS) : Prop where
  nms : S.names = nm
  hou : ∀ p ∈ S.posts, (hrB p.2 = false ↔ p.1 = "a")
  ab : ("a" : Str) ∈ nm
  bc : ∃ t ∈ S.ties, t.2.1 = "b" ∧ t.2.2.1 = "c"
def tieB (nm : List Str) (x y : Str) : Bool := !decide (x ∈ nm) || !decide (y ∈ nm) || decide (y = "a") || decide (x = y) || (decide (x = "c") && decide (y = "b"))
def refB (nm : List Str) (ws : List Str) : Bool := match ws with
  | [a, x] => if a = "tie" then true else match kdOf a with
    | none => true
    | some kd => !isName x || decide (x ∈ nm) || !hrB kd
  | [a, x, y] => if a = "tie" then tieB nm x y else true
  | [a, x, y, z] => if a = "tie" then !isNum z || decide (numVal z < 1) || tieB nm x y else true
  | _ => true
theorem kind_of {S : NS} {y : Str} (h : ∀ p ∈ S.posts, (hrB p.2 = false ↔ p.1 = "a")) (hy : y ∈ S.names) : hrB (S.kind y) = false ↔ y = "a" := by
  unfold NS.kind
  cases hf : S.posts.find? (fun p => decide (p.1 = y)) with
  | none =>
    obtain ⟨p, hp, e⟩ := List.mem_map.mp hy
    have := List.find?_eq_none.mp hf p hp
    exact absurd (decide_eq_true e) this
  | some p =>
    have m1 := List.mem_of_find?_eq_some hf
    have m2 : p.1 = y := by simpa using List.find?_some hf
    show hrB p.2 = false ↔ y = "a"
    rw [← m2]
    exact h p m1
theorem tieB_due {nm : List Str} {S : NS} {x y : Str} {d : Int} (F : Facts nm S) (h : tieB nm x y = true) : dueT S x y d ≠ none := by
  have due : dueN S x y ≠ none := by
    unfold dueN
    by_cases hx : x ∈ S.names
    · rw [if_pos hx]
      by_cases hy : y ∈ S.names
      · rw [if_pos hy]
        by_cases hb : hrB (S.kind y) = true
        · rw [if_pos hb]
          have hya : y ≠ "a" := fun z => by rw [(kind_of F.hou hy).mpr z] at hb; cases hb
          have L : Leads S.ties y x := by
            unfold tieB at h
            rw [F.nms] at hx hy
            rw [decide_eq_true hx, decide_eq_true hy, decide_eq_false hya] at h
            by_cases e : x = y
            · rw [e]; exact .refl
            · rw [decide_eq_false e] at h
              simp only [Bool.not_true, Bool.false_or, Bool.and_eq_true, decide_eq_true_eq] at h
              obtain ⟨t, ht, e1, e2⟩ := F.bc
              rw [h.1, h.2, ← e2]
              exact .step ht (e1 ▸ .refl)
          rw [if_pos L]
          exact fun z => nomatch z
        · rw [if_neg hb]; exact fun z => nomatch z
      · rw [if_neg hy]; exact fun z => nomatch z
    · rw [if_neg hx]; exact fun z => nomatch z
  cases hn : dueN S x y with
  | none => exact absurd hn due
  | some r => rw [dueT_some hn]; exact fun z => nomatch z
theorem home_some {nm : List Str} {S : NS} (F : Facts nm S) : S.home.isSome = true := by
  have ha := F.ab
  rw [← F.nms] at ha
  obtain ⟨p, hp, e⟩ := List.mem_map.mp ha
  unfold NS.home
  cases hf : S.posts.find? (fun p => !hrB p.2) with
  | some q => rfl
  | none =>
    have := List.find?_eq_none.mp hf p hp
    rw [(F.hou p hp).mpr e] at this
    exact absurd rfl this
theorem refB_sound {nm : List Str} {S : NS} {ws : List Str} (F : Facts nm S) (h : refB nm ws = true) : lineR S ws = none := by
  rcases ws with _ | ⟨a, _ | ⟨x, _ | ⟨y, _ | ⟨z, _ | ⟨u, r⟩⟩⟩⟩⟩
  · rfl
  · by_cases ha : a = "tie"
    · rw [lineR_tie ha]; rfl
    · rw [lineR_post ha]; rfl
  · by_cases ha : a = "tie"
    · rw [lineR_tie ha]; rfl
    · rw [lineR_post ha]
      show (match kdOf a with | some kd => if POk S kd x then some (S.put x kd) else none | none => none) = none
      have h : (if a = "tie" then true else match kdOf a with | none => true | some kd => !isName x || decide (x ∈ nm) || !hrB kd) = true := h
      rw [if_neg ha] at h
      cases hk : kdOf a with
      | none => rfl
      | some kd =>
        rw [hk] at h
        refine if_neg fun ok => ?_
        obtain ⟨o1, o2, o3, _⟩ := ok
        rw [F.nms] at o2
        have h : (!isName x || decide (x ∈ nm) || !hrB kd) = true := h
        rw [o1, decide_eq_false o2] at h
        have hb : hrB kd = false := by simpa using h
        exact o3 ⟨hb, home_some F⟩
  · by_cases ha : a = "tie"
    · rw [lineR_tie ha]
      have h : (if a = "tie" then tieB nm x y else true) = true := h
      rw [if_pos ha] at h
      unfold tieR
      exact if_neg (tieB_due F h)
    · rw [lineR_post ha]; rfl
  · by_cases ha : a = "tie"
    · rw [lineR_tie ha]
      have h : (if a = "tie" then !isNum z || decide (numVal z < 1) || tieB nm x y else true) = true := h
      rw [if_pos ha] at h
      unfold tieR
      by_cases hn : isNum z = true
      · refine (if_pos hn).trans (if_neg fun hd => ?_)
        rw [hn] at h
        by_cases hv : numVal z < 1
        · cases hx : dueN S x y with
          | some r => rw [dueT_some hx] at hd; cases hd
          | none =>
            rw [dueT_none hx, if_neg (fun z => by
              unfold isDelay at z
              rw [Bool.and_eq_true] at z
              have := of_decide_eq_true z.1
              omega)] at hd
            cases hd
        · rw [decide_eq_false hv] at h
          exact tieB_due F h hd
      · exact if_neg hn
    · rw [lineR_post ha]; rfl
  · by_cases ha : a = "tie"
    · rw [lineR_tie ha]; rfl
    · rw [lineR_post ha]; rfl
end K25
set_option maxRecDepth 100000
namespace K25
open PySem L2
open PyProof.Rows (boot_list boot_int boot_bool boot_tuple boot_str boot_dict boot_all)
def wB (z : Str) : Bool := !z.cps.toList.contains 32 && !z.cps.toList.contains 10 && decide (z.length ≤ 40) && (!isNum z || (List.range 100).any fun d => decide (z = numS ((d : Nat) : Int)))
theorem wB_no {z : Str} (h : wB z = true) : 32 ∉ z.cps.toList ∧ 10 ∉ z.cps.toList := by
  unfold wB at h
  simp only [Bool.and_eq_true, Bool.not_eq_true'] at h
  exact ⟨fun y => by have := h.1.1.1; simp [y] at this, fun y => by have := h.1.1.2; simp [y] at this⟩
theorem wB_len {z : Str} (h : wB z = true) : z.length ≤ 40 := by
  unfold wB at h
  simp only [Bool.and_eq_true, decide_eq_true_eq] at h
  exact h.1.2
theorem wB_num {z : Str} (h : wB z = true) : NumW z := fun hn => by
  unfold wB at h
  rw [hn] at h
  simp only [Bool.and_eq_true] at h
  have h := h.2
  simp only [Bool.not_true, Bool.false_or] at h
  obtain ⟨d, hd, e⟩ := List.any_eq_true.mp h
  have hd := List.mem_range.mp hd
  exact ⟨(d : Int), by omega, by omega, of_decide_eq_true e⟩
structure LnG (ws : List Str) : Prop where
  w : LnW ws
  len : (lineS ws).length ≤ 100
theorem LnG.of {ws : List Str} (h1 : ws ≠ []) (h2 : ws.length ≤ 10) (h : ∀ z ∈ ws, wB z = true) (h3 : (lineS ws).length ≤ 100) : LnG ws :=
  ⟨⟨h1, h2, fun z hz => wB_no (h z hz), fun z hz => Nat.le_trans (wB_len (h z hz)) (by decide), fun z hz => wB_num (h z hz)⟩, h3⟩
def lnB (ws : List Str) : Bool := !ws.isEmpty && decide (ws.length ≤ 10) && ws.all wB && decide ((lineS ws).length ≤ 100)
theorem lnB_of {ws : List Str} (h : lnB ws = true) : LnG ws := by
  unfold lnB at h
  simp only [Bool.and_eq_true, decide_eq_true_eq] at h
  exact LnG.of (fun z => by rw [z] at h; exact absurd h.1.1.1 (by decide)) h.1.1.2 (fun z hz => List.all_eq_true.mp h.1.2 z hz) h.2
theorem num_w {d : Int} (h0 : 0 ≤ d) (h1 : d ≤ 99) : wB (numS d) = true ∧ (numS d).length ≤ 2 := by
  have : ∀ n : Fin 100, wB (numS ((n : Nat) : Int)) = true ∧ (numS ((n : Nat) : Int)).length ≤ 2 := by decide +kernel
  have := this ⟨d.toNat, by omega⟩
  simp only [Int.toNat_of_nonneg h0] at this
  exact this
theorem NM_w : ∀ x ∈ NM, wB x = true ∧ x.length ≤ 5 := by decide +kernel
theorem kw_w : wB "house" = true ∧ wB "listener" = true ∧ wB "post" = true ∧ wB "tie" = true := by decide +kernel
theorem post_ln {k : Kd} {x : Str} (hx : x ∈ NM) : LnG [kdS k, x] := by
  obtain ⟨w1, w2⟩ := NM_w x hx
  refine LnG.of (fun z => nomatch z) (by show 2 ≤ 10; decide) (fun z hz => ?_) ?_
  · rcases List.mem_cons.mp hz with rfl | hz
    · cases k
      · exact kw_w.1
      · exact kw_w.2.1
      · exact kw_w.2.2.1
    · rw [List.mem_singleton.mp hz]; exact w1
  · show (kdS k ++ BL ++ x).length ≤ 100
    rw [Str.length_append, Str.length_append]
    have := kdS_len k
    have : BL.length = 1 := rfl
    omega
theorem tie_ln {x y : Str} (hx : x ∈ NM) (hy : y ∈ NM) : LnG ["tie", x, y] := by
  obtain ⟨w1, w2⟩ := NM_w x hx
  obtain ⟨w3, w4⟩ := NM_w y hy
  refine LnG.of (fun z => nomatch z) (by show 3 ≤ 10; decide) (fun z hz => ?_) ?_
  · have hz : z = "tie" ∨ z = x ∨ z = y := by simpa using hz
    rcases hz with rfl | rfl | rfl
    · exact kw_w.2.2.2
    · exact w1
    · exact w3
  · show (("tie" : Str) ++ BL ++ (x ++ BL ++ y)).length ≤ 100
    simp only [Str.length_append]
    have : BL.length = 1 := rfl
    have : (("tie" : Str)).length = 3 := rfl
    omega
theorem tie_ln4 {x y : Str} {d : Int} (hx : x ∈ NM) (hy : y ∈ NM) (h0 : 0 ≤ d) (h1 : d ≤ 99) : LnG ["tie", x, y, numS d] := by
  obtain ⟨w1, w2⟩ := NM_w x hx
  obtain ⟨w3, w4⟩ := NM_w y hy
  obtain ⟨w5, w6⟩ := num_w h0 h1
  refine LnG.of (fun z => nomatch z) (by show 4 ≤ 10; decide) (fun z hz => ?_) ?_
  · have hz : z = "tie" ∨ z = x ∨ z = y ∨ z = numS d := by simpa using hz
    rcases hz with rfl | rfl | rfl | rfl
    · exact kw_w.2.2.2
    · exact w1
    · exact w3
    · exact w5
  · show (("tie" : Str) ++ BL ++ (x ++ BL ++ (y ++ BL ++ numS d))).length ≤ 100
    simp only [Str.length_append]
    have : BL.length = 1 := rfl
    have : (("tie" : Str)).length = 3 := rfl
    omega
theorem LsW.of {ls : List (List Str)} (h : ∀ ws ∈ ls, LnG ws) (h1 : ls ≠ []) (h2 : ls.length ≤ 60) (h3 : ∃ ws r, ls = ws :: r ∧ (lineS ws).cps.toList ≠ []) : LsW ls := by
  refine ⟨fun ws hw => (h ws hw).w, h1, h2, fun z => ?_⟩
  obtain ⟨ws, r, rfl, hne⟩ := h3
  have z := congrArg (fun y => y.cps.toList) z
  unfold textL at z
  rw [NL_eq] at z
  obtain ⟨a, r', e, e2⟩ := cps_join 10 ((ws :: r).map lineS) (fun z => nomatch z)
  injection e with e3 e4
  subst e3
  have z : (Str.join ⟨#[10]⟩ ((ws :: r).map lineS)).cps.toList = [] := z
  rw [e2] at z
  exact hne (List.append_eq_nil_iff.mp z).1
structure PP (k : Nat) (S : NS) : Prop where
  nms : S.names = NM.take k
  ties : S.ties = []
  hou : ∀ p ∈ S.posts, (hrB p.2 = false ↔ p.1 = "a")
  lis : S.lis.length + 1 ≤ k
theorem kdOf_kdS : ∀ k, kdOf (kdS k) = some k
  | .house => by decide
  | .listener => by decide
  | .post => by decide
theorem kdS_tie : ∀ k, ¬ kdS k = "tie"
  | .house => by decide
  | .listener => by decide
  | .post => by decide
theorem line_post {S : NS} {k : Kd} {x : Str} (h : POk S k x) : lineR S [kdS k, x] = some (S.put x k) := by
  rw [lineR_post (kdS_tie k)]
  show (match kdOf (kdS k) with | some kd => if POk S kd x then some (S.put x kd) else none | none => none) = _
  rw [kdOf_kdS]
  exact if_pos h
theorem PP.one : lineR S0 [kdS .house, "a"] = some (S0.put "a" .house) ∧ PP 1 (S0.put "a" .house) := by
  refine ⟨line_post (by decide +kernel), by decide +kernel, rfl, fun p hp => ?_, by decide +kernel⟩
  have : p = (("a" : Str), Kd.house) := by simpa [S0, NS.put] using hp
  subst this
  exact ⟨fun _ => rfl, fun _ => rfl⟩
theorem PP.step {k : Nat} {S : NS} {kd : Kd} {x : Str} (h : PP k S) (hk : 1 ≤ k) (hx : NM[k]? = some x) (hkd : hrB kd = true) : lineR S [kdS kd, x] = some (S.put x kd) ∧ PP (k + 1) (S.put x kd) := by
  obtain ⟨hi, ex⟩ := List.getElem?_eq_some_iff.mp hx
  have h8 : NM.length = 8 := rfl
  have hnew : ¬ x ∈ S.names := by
    rw [h.nms]
    intro z
    obtain ⟨j, hj, e⟩ := List.getElem_of_mem z
    rw [List.getElem_take] at e
    have hj2 : j < k := by rw [List.length_take] at hj; omega
    have := (List.getElem_inj NM_nd (h₀ := by omega) (h₁ := hi)).mp (e.trans ex.symm)
    omega
  have xa : x ≠ "a" := fun z => by
    have h0 : NM[0]? = some ("a" : Str) := rfl
    have := at_inj NM_nd (h0.trans (by rw [z])) hx
    omega
  have hpl : S.posts.length = k := by
    have := congrArg List.length h.nms
    unfold NS.names at this
    rw [List.length_map, List.length_take] at this
    omega
  have hl := h.lis
  have ok : POk S kd x := by
    refine ⟨NM_name x (List.mem_of_getElem? hx), hnew, fun z => by rw [hkd] at z; exact absurd z.1 (by decide), ?_⟩
    unfold full
    rw [decide_eq_false (by omega), Bool.false_or]
    cases rdB kd with
    | false => rfl
    | true => rw [Bool.true_and]; exact decide_eq_false (by omega)
  refine ⟨line_post ok, ?_, h.ties, fun p hp => ?_, ?_⟩
  · show (S.posts ++ [(x, kd)]).map (·.1) = _
    rw [List.map_append, List.take_add_one, hx]
    exact congrArg (· ++ [x]) h.nms
  · rcases List.mem_append.mp hp with hp | hp
    · exact h.hou p hp
    · have : p = (x, kd) := by simpa using hp
      subst this
      exact ⟨fun z => (by rw [hkd] at z; cases z), fun z => absurd z xa⟩
  · show (((S.posts ++ [(x, kd)]).filter fun p => rdB p.2).map (·.1)).length + 1 ≤ _
    unfold NS.lis at hl
    rw [List.filter_append, List.map_append, List.length_append]
    have : (([(x, kd)].filter fun p : Str × Kd => rdB p.2).map (·.1)).length ≤ 1 := by
      rw [List.length_map]
      exact List.length_filter_le _ _
    omega
structure TP (nm : List Str) (n : Nat) (S : NS) : Prop where
  nms : S.names = nm
  hou : ∀ p ∈ S.posts, (hrB p.2 = false ↔ p.1 = "a")
  up : ∀ t ∈ S.ties, Up nm t.2.1 t.2.2.1
  cnt : S.ties.length ≤ n
theorem PP.tp {k : Nat} {S : NS} (h : PP k S) : TP (NM.take k) 0 S :=
  ⟨h.nms, h.hou, fun t ht => (by rw [h.ties] at ht; cases ht), (by rw [h.ties]; exact Nat.le_refl _)⟩
theorem TP.due {nm : List Str} {n u v : Nat} {S : NS} {x y : Str} {d : Int} (h : TP nm n S) (nd : nm.Nodup) (ha : nm[0]? = some ("a" : Str)) (hn : n < 40) (huv : u < v) (hx : nm[u]? = some x) (hy : nm[v]? = some y) (h1 : 1 ≤ d) (h2 : d ≤ 99) : dueT S x y d = none := by
  have xm : x ∈ S.names := by rw [h.nms]; exact List.mem_of_getElem? hx
  have ym : y ∈ S.names := by rw [h.nms]; exact List.mem_of_getElem? hy
  have hb : hrB (S.kind y) = true := by
    cases hb : hrB (S.kind y) with
    | true => rfl
    | false =>
      have := (kind_of h.hou ym).mp hb
      rw [this] at hy
      have := at_inj nd ha hy
      omega
  have nl : ¬ Leads S.ties y x := not_leads nd h.up ⟨u, v, huv, hx, hy⟩
  have isd : isDelay d = true := by
    unfold isDelay
    rw [Bool.and_eq_true]
    exact ⟨decide_eq_true h1, decide_eq_true h2⟩
  have := h.cnt
  rw [dueT_none (by unfold dueN; rw [if_pos xm, if_pos ym, if_pos hb, if_neg nl]), if_pos isd, if_neg (by omega)]
theorem TP.tie {nm : List Str} {n : Nat} {S : NS} {x y : Str} {d : Int} (h : TP nm n S) (hu : Up nm x y) : TP nm (n + 1) (S.tie x y d) := by
  refine ⟨h.nms, h.hou, fun t ht => ?_, ?_⟩
  · rcases List.mem_append.mp ht with ht | ht
    · exact h.up t ht
    · have : t = (S.next, x, y, d) := by simpa using ht
      subst this
      exact hu
  · show (S.ties ++ [_]).length ≤ _
    rw [List.length_append, List.length_singleton]
    have := h.cnt
    omega
theorem line_tie {S : NS} {x y : Str} (h : dueT S x y 1 = none) : lineR S ["tie", x, y] = some (S.tie x y 1) := by
  rw [lineR_tie rfl]
  unfold tieR
  exact if_pos h
theorem line_tie4 {S : NS} {x y : Str} {d : Int} (h0 : 1 ≤ d) (h1 : d ≤ 99) (h : dueT S x y d = none) : lineR S ["tie", x, y, numS d] = some (S.tie x y d) := by
  rw [lineR_tie rfl]
  have hv := numVal_num (show 0 ≤ d by omega) h1
  have hn : isNum (numS d) = true := by
    have : ∀ n : Fin 100, isNum (numS ((n : Nat) : Int)) = true := by decide +kernel
    have := this ⟨d.toNat, by omega⟩
    simp only [Int.toNat_of_nonneg (show 0 ≤ d by omega)] at this
    exact this
  unfold tieR
  refine (if_pos hn).trans ?_
  rw [hv]
  exact if_pos h
theorem Facts.tie {nm : List Str} {S : NS} {x y : Str} {d : Int} (h : Facts nm S) : Facts nm (S.tie x y d) := by
  obtain ⟨t, ht, e⟩ := h.bc
  exact ⟨h.nms, h.hou, h.ab, t, List.mem_append_left _ ht, e⟩
theorem TP.facts {nm : List Str} {n : Nat} {S : NS} (h : TP nm n S) (ha : ("a" : Str) ∈ nm) (hb : ∃ t ∈ S.ties, t.2.1 = "b" ∧ t.2.2.1 = "c") : Facts nm S := ⟨h.nms, h.hou, ha, hb⟩
def BW0 : List (List Str) := [([""] : List Str), (["", ""] : List Str), (["tie"] : List Str), (["tie", "a"] : List Str), (["tie", "a", "b", ""] : List Str), (["tie", "", "a", "b"] : List Str), (["", "tie", "a", "b"] : List Str), (["Tie", "a", "b"] : List Str), (["ties", "a", "b"] : List Str), (["tie", "a", "b", "0"] : List Str)]
def BW1 : List (List Str) := [(["tie", "a", "b", "100"] : List Str), (["tie", "a", "b", "01"] : List Str), (["tie", "a", "b", "x"] : List Str), (["tie", "a", "b", "-1"] : List Str), (["tie", "a", "b", "+1"] : List Str), (["tie", "a", "b", "1", "1"] : List Str), (["tie", "a", "b", "1_0"] : List Str)]
def BW2 : List (List Str) := [(["tie", "a", "zzz"] : List Str), (["tie", "zzz", "b"] : List Str), (["tie", "b", "a"] : List Str), (["tie", "b", "b"] : List Str), (["tie", "c", "b"] : List Str), (["tie", "a", "a"] : List Str), (["tie", "c", "c", "3"] : List Str), (["house"] : List Str)]
def BW3 : List (List Str) := [(["house", "zz"] : List Str), (["house", "a"] : List Str), (["houses", "zz"] : List Str), (["post"] : List Str), (["post", "a"] : List Str), (["post", "c"] : List Str), (["post", "Zz"] : List Str), (["post", "ninelette"] : List Str)]
def BW4 : List (List Str) := [(["post", "z1"] : List Str), (["post", "", "zz"] : List Str), (["post", "zz", ""] : List Str), (["post", "zz", "1"] : List Str), (["listener"] : List Str), (["listener", "b"] : List Str), (["listeners", "zz"] : List Str), (["line"] : List Str)]
def BW5 : List (List Str) := [(["listener", "Q"] : List Str), (["a"] : List Str), (["tie", "a", "b", "999999999999999999999999999999"] : List Str)]
def BADW : List (List Str) := BW0 ++ BW1 ++ BW2 ++ BW3 ++ BW4 ++ BW5
theorem bad_ln : ∀ ws ∈ BADW, lnB ws = true := by decide +kernel
theorem bad_ref : ∀ m : Fin 9, 3 ≤ m.val → ∀ ws ∈ BADW, refB (NM.take m.val) ws = true := by decide +kernel
end K25
set_option maxRecDepth 100000
namespace K25
open PySem L2
open PyProof.Rows (boot_list boot_int boot_bool boot_tuple boot_str boot_dict boot_all)
def CR0 : List (List Str) := [kdS .house, "a"] :: (List.range 9).map fun k => [kdS .listener, (⟨#[98 + k]⟩ : Str)]
def CR1 : List (List Str) := (List.range 21).map fun k => [kdS .post, (⟨#[113, 97 + k]⟩ : Str)]
def tieC (k : Nat) : List Str := ["tie", "a", "b", numS (1 + (k : Int))]
def crP (j : Nat) : List (List Str) := [kdS .house, "a"] :: [kdS .post, "b"] :: (List.range j).map tieC
def CR2 : List (List Str) := crP 41
def runP : NS → Nat → List (List Str) → Sum Nat NS
  | S, _, [] => .inr S
  | S, i, ws :: ls => match postR S ws with
    | none => .inl i
    | some S' => runP S' (i + 1) ls
def noTie : List Str → Bool
  | a :: _ => !decide (a = "tie")
  | [] => false
theorem run_posts : ∀ (ls : List (List Str)) (S : NS) (i : Nat), ls.all noTie = true → runL S i ls = runP S i ls
  | [], _, _, _ => rfl
  | ws :: ls, S, i, h => by
    rw [List.all_cons, Bool.and_eq_true] at h
    cases ws with
    | nil => exact absurd h.1 (by decide)
    | cons a r =>
      have ha : ¬ a = "tie" := fun z => by
        have : (!decide (a = "tie")) = true := h.1
        rw [decide_eq_true z] at this
        cases this
      show (match lineR S (a :: r) with | none => Sum.inl i | some S' => runL S' (i + 1) ls) = match postR S (a :: r) with | none => Sum.inl i | some S' => runP S' (i + 1) ls
      rw [lineR_post ha]
      cases postR S (a :: r) with
      | none => rfl
      | some S' => exact run_posts ls S' (i + 1) h.2
def isL : Sum Nat NS → Nat → Bool
  | .inl j, i => decide (j = i)
  | .inr _, _ => false
def isR : Sum Nat NS → Bool
  | .inl _ => false
  | .inr _ => true
theorem isL_of {s : Sum Nat NS} {i : Nat} (h : isL s i = true) : s = .inl i := by
  cases s with
  | inl j => rw [of_decide_eq_true h]
  | inr S => cases h
theorem isR_of {s : Sum Nat NS} (h : isR s = true) : ∃ S, s = .inr S := by
  cases s with
  | inl j => cases h
  | inr S => exact ⟨S, rfl⟩
theorem cr0 : runL S0 0 CR0 = .inl 9 ∧ ∃ S, runL S0 0 CR0.dropLast = .inr S := by
  refine ⟨?_, ?_⟩
  · rw [run_posts _ _ _ (by decide +kernel)]
    exact isL_of (by decide +kernel)
  · rw [run_posts _ _ _ (by decide +kernel)]
    exact isR_of (by decide +kernel)
theorem cr1 : runL S0 0 CR1 = .inl 20 ∧ ∃ S, runL S0 0 CR1.dropLast = .inr S := by
  refine ⟨?_, ?_⟩
  · rw [run_posts _ _ _ (by decide +kernel)]
    exact isL_of (by decide +kernel)
  · rw [run_posts _ _ _ (by decide +kernel)]
    exact isR_of (by decide +kernel)
def TS (j : Nat) : NS := ⟨[("a", .house), ("b", .post)], (List.range j).map fun k : Nat => ((k : Int), ("a" : Str), ("b" : Str), 1 + (k : Int)), (j : Int)⟩
theorem TS_tp (j : Nat) : TP ["a", "b"] j (TS j) := by
  refine ⟨rfl, fun p hp => ?_, fun t ht => ?_, by simp [TS]⟩
  · have hp : p = (("a" : Str), Kd.house) ∨ p = (("b" : Str), Kd.post) := by simpa [TS] using hp
    rcases hp with rfl | rfl
    · exact ⟨fun _ => rfl, fun _ => rfl⟩
    · exact ⟨fun z => (nomatch z), fun z => absurd (show ("b" : Str) = "a" from z) (by decide)⟩
  · obtain ⟨k, _, rfl⟩ := List.mem_map.mp ht
    exact ⟨0, 1, by decide, rfl, rfl⟩
theorem TS_tie (j : Nat) : (TS j).tie "a" "b" (1 + (j : Int)) = TS (j + 1) := by
  unfold NS.tie TS
  rw [List.range_succ, List.map_append]
  rfl
theorem run_crP : ∀ j : Nat, j ≤ 40 → runL S0 0 (crP j) = .inr (TS j)
  | 0, _ => by
    have : runL S0 0 (crP 0) = runP S0 0 (crP 0) := run_posts _ _ _ (by decide +kernel)
    rw [this]
    show (match postR S0 [kdS .house, "a"] with | none => Sum.inl 0 | some S' => runP S' 1 [[kdS .post, "b"]]) = _
    have p1 : postR S0 [kdS .house, "a"] = some (S0.put "a" .house) := by
      show (match kdOf (kdS .house) with | some kd => if POk S0 kd "a" then some (S0.put "a" kd) else none | none => none) = _
      rw [kdOf_kdS]
      exact if_pos (by decide +kernel)
    rw [p1]
    show (match postR (S0.put "a" .house) [kdS .post, "b"] with | none => Sum.inl 1 | some S' => runP S' 2 []) = _
    have p2 : postR (S0.put "a" .house) [kdS .post, "b"] = some ((S0.put "a" .house).put "b" .post) := by
      show (match kdOf (kdS .post) with | some kd => if POk (S0.put "a" .house) kd "b" then some ((S0.put "a" .house).put "b" kd) else none | none => none) = _
      rw [kdOf_kdS]
      exact if_pos (by decide +kernel)
    rw [p2]
    rfl
  | j + 1, h => by
    have ih := run_crP j (by omega)
    have e : crP (j + 1) = crP j ++ [tieC j] := by
      unfold crP
      rw [List.range_succ, List.map_append]
      rfl
    rw [e]
    refine run_snoc ih ?_
    unfold tieC
    rw [line_tie4 (by omega) (by omega) ((TS_tp j).due (u := 0) (v := 1) (by decide +kernel) rfl (by omega) (by decide) rfl rfl (by omega) (by omega)), TS_tie]
theorem cr2 : runL S0 0 CR2 = .inl 42 ∧ ∃ S, runL S0 0 CR2.dropLast = .inr S := by
  have e : CR2 = crP 40 ++ [tieC 40] := by
    unfold CR2 crP
    rw [List.range_succ, List.map_append]
    rfl
  have ih := run_crP 40 (Nat.le_refl _)
  constructor
  · have hl : lineR (TS 40) (tieC 40) = none := by
      unfold tieC
      rw [lineR_tie rfl]
      unfold tieR
      by_cases hn : isNum (numS (1 + ((40 : Nat) : Int))) = true
      · refine (if_pos hn).trans (if_neg fun hd => ?_)
        have hc : (TS 40).ties.length = 40 := by simp [TS]
        cases hx : dueN (TS 40) "a" "b" with
        | some r => rw [dueT_some hx] at hd; cases hd
        | none =>
          rw [dueT_none hx] at hd
          split at hd
          · rw [if_pos (by omega)] at hd; cases hd
          · cases hd
      · exact if_neg hn
    have := run_stop (l2 := []) ih hl
    rw [e, this]
    have : (crP 40).length = 42 := by simp [crP]
    rw [this]
  · refine ⟨TS 40, ?_⟩
    rw [e, List.dropLast_concat]
    exact ih
def crowdL (w : Int) : List (List Str) := if w = 0 then CR0 else if w = 1 then CR1 else CR2
theorem crowd_ln0 : ∀ ws ∈ CR0, lnB ws = true := by decide +kernel
theorem crowd_ln1 : ∀ ws ∈ CR1, lnB ws = true := by decide +kernel
theorem crowd_ln2 : ∀ ws ∈ CR2, lnB ws = true := by decide +kernel
structure Crowd (ls : List (List Str)) : Prop where
  ln : ∀ ws ∈ ls, LnG ws
  lo : 10 ≤ ls.length
  hi : ls.length ≤ 43
  bad : runL S0 0 ls = .inl (ls.length - 1)
  good : ∃ S, runL S0 0 ls.dropLast = .inr S
  fst : ∃ ws r, ls = ws :: r ∧ (lineS ws).cps.toList ≠ []
theorem crowd_ok (w : Int) : Crowd (crowdL w) := by
  unfold crowdL
  split
  · exact ⟨fun ws h => lnB_of (crowd_ln0 ws h), by decide, by decide, cr0.1, cr0.2, _, _, rfl, by decide⟩
  · split
    · exact ⟨fun ws h => lnB_of (crowd_ln1 ws h), by decide, by decide, cr1.1, cr1.2, [kdS .post, (⟨#[113, 97]⟩ : Str)], CR1.tail, by decide +kernel, by decide⟩
    · exact ⟨fun ws h => lnB_of (crowd_ln2 ws h), by decide, by decide, cr2.1, cr2.2, _, _, rfl, by decide⟩
end K25
set_option maxRecDepth 100000
namespace K25
open PySem L2
open PyProof.Rows (boot_list boot_int boot_bool boot_tuple boot_str boot_dict boot_all)
def tStrs (zs : List Str) : TA := fun _ H Q => Q (zs.map V.str) H
def cstS (c : Str × Nat × Pos) : Expr := .Constant (.str c.1) c.2.1 c.2.2
theorem pa_strs0 {X : Cx} : ∀ cs : List (Str × Nat × Pos), PA X (cs.map cstS) (tStrs (cs.map (·.1)))
  | [] => pa_nil
  | (i, j, p) :: cs => pa_cons (e := .Constant (.str i) j p) (es := cs.map cstS) pe_str (pa_strs0 cs)
theorem pa_strs {X : Cx} {es : List Expr} {cs : List (Str × Nat × Pos)} {zs : List Str} (h : es = cs.map cstS) (k : cs.map (·.1) = zs) : PA X es (tStrs zs) := by
  subst h; subst k; exact pa_strs0 cs
def strsOf (es : List Expr) : List (Str × Nat × Pos) := es.filterMap fun e => match e with | .Constant (.str i) j p => some (i, j, p) | _ => none
theorem atI_nat {α : Type} {xs : List α} {j : Nat} {x : α} (h : xs[j]? = some x) : atI xs (j : Int) = some x := by
  have hj := (List.getElem?_eq_some_iff.mp h).1
  unfold atI ixN
  rw [if_pos (Int.natCast_nonneg j), if_pos (by simpa using hj)]
  simpa using h
theorem atI_of {α : Type} {xs : List α} {i : Int} (h0 : 0 ≤ i) (h : i < xs.length) : ∃ v, xs[i.toNat]? = some v ∧ atI xs i = some v := by
  have hj : i.toNat < xs.length := by omega
  refine ⟨xs[i.toNat], List.getElem?_eq_getElem hj, ?_⟩
  have := atI_nat (xs := xs) (j := i.toNat) (List.getElem?_eq_getElem hj)
  rwa [Int.toNat_of_nonneg h0] at this
structure TxtA (mg : Str → Option Value) : Prop where
  n_len : mg "len" = none
  n_range : mg "range" = none
  n_str : mg "str" = none
def mixN (c k : Int) : Int := (c + 7919 * k + 1) * 48271 % 2147483647
def mixF (c k : Int) : Int := mixN c k * (mixN c k / 1009 + 69621) % 2147483647
section
variable {P : Program} {w : World} {K : PySem.W.Frag} {mg : Str → Option Value} {base : Heap}
abbrev s_Lcell_at : Stmt := top 41
theorem sc_Lcell_at : FnScope ["_law_script", "_law_k"] ["_law_script", "_law_k"] (defScope s_Lcell_at) := ⟨rfl, rfl, rfl, by decide +kernel, rfl, by decide +kernel, by decide +kernel⟩
def sp_Lcell_at (K : PySem.W.Frag) : Sp := fun vs H Q _ => ∃ (a : Addr) (k : Int) (ns : List Int), vs = [.ref a, .int k] ∧ 0 ≤ k ∧ SqL K H a (ns.map V.int) ∧ ∀ c : Int, Q (.int c) H
theorem ok_Lcell_at {f : Addr} {fd : FuncData} (F : Fun K "_law_cell_at" "_law_cell_at" s_Lcell_at f fd) (T : TxtA mg) : FnOk P w K mg base CX0 1 f fd ["_law_script", "_law_k"] (sp_Lcell_at K) := by
  refine F.ok sc_Lcell_at (fun vs H Q E h => ?_) (fun cdv A outer s H vs Q E hr h => ?_)
  · obtain ⟨a, k, ns, rfl, _⟩ := h
    rfl
  · obtain ⟨a, k, ns, rfl, hk, hS, q⟩ := h
    refine ⟨_, (pss_cons (ps_if (pt_cmpR op_lt (pv 1) (pe_callB (lenK K) rfl T.n_len boot_len (pa_cons (pv 0) pa_nil)) (nomark _))
    (pss_one (ps_ret (pe_ix (ixlK K) (pv 0) (pv 1) (fun _ _ => rfl))))
    pss_nil)
  (pss_one (ps_ret pe_int))), ?_⟩
    refine ⟨_, rfl, _, rfl, a, _, rfl, .inl hS, _, _, rfl, rfl, _, rfl, ?_⟩
    refine ite2 (fun hc => ?_) (fun hc => ?_)
    · have hc := of_decide_eq_true hc
      obtain ⟨v, ev, e⟩ := atI_of hk hc
      rw [List.getElem?_map] at ev
      cases hn : ns[k.toNat]? with
      | none => rw [hn] at ev; cases ev
      | some z =>
        rw [hn] at ev
        have : v = .int z := by simpa using ev.symm
        subst this
        exact ⟨_, rfl, _, rfl, a, _, k, _, rfl, rfl, hS, e, q z⟩
    · exact q 0
abbrev s_Lmixed : Stmt := top 42
theorem sc_Lmixed : FnScope ["_law_cell", "_law_k", "_law_number"] ["_law_cell", "_law_k"] (defScope s_Lmixed) := ⟨rfl, rfl, rfl, by decide +kernel, rfl, by decide +kernel, by decide +kernel⟩
def sp_Lmixed : Sp := fun vs H Q _ => ∃ (c k : Int), vs = [.int c, .int k] ∧ Q (.int (mixF c k)) H
theorem ok_Lmixed {f : Addr} {fd : FuncData} (F : Fun K "_law_mixed" "_law_mixed" s_Lmixed f fd) : FnOk P w K mg base CX0 1 f fd ["_law_cell", "_law_k"] sp_Lmixed := by
  refine F.ok sc_Lmixed (fun vs H Q E h => ?_) (fun cdv A outer s H vs Q E hr h => ?_)
  · obtain ⟨c, k, rfl, _⟩ := h
    rfl
  · obtain ⟨c, k, rfl, q⟩ := h
    have ND := sc_Lmixed.nd
    refine ⟨_, (pss_cons (ps_set (i := 2) ND rfl (by first | exact Or.inl rfl | exact Or.inr rfl) (pe_op op_mod (pe_op op_mul (pe_op op_add (pe_op op_add (pv 0) (pe_op op_mul pe_int (pv 1))) pe_int) pe_int) pe_int))
  (pss_one (ps_ret (pe_op op_mod (pe_op op_mul (pv 2) (pe_op op_add (pe_op op_fdiv (pv 2) pe_int) pe_int)) pe_int)))), ?_⟩
    refine ⟨_, rfl, _, rfl, _, _, rfl, rfl, .inl ⟨by decide, by decide⟩, _, _, rfl, rfl, _, _, rfl, rfl, _, _, rfl, rfl, .inr ⟨by decide, by decide⟩, _, _, rfl, rfl, (by show (0 : Int) < 2147483647; decide), ?_⟩
    have b1 := Int.emod_nonneg ((c + 7919 * k + 1) * 48271) (show (2147483647 : Int) ≠ 0 by decide)
    have b2 := Int.emod_lt_of_pos ((c + 7919 * k + 1) * 48271) (show (0 : Int) < 2147483647 by decide)
    exact ⟨_, rfl, _, rfl, _, _, rfl, rfl, ⟨by decide, by decide⟩, _, _, rfl, rfl, _, _, rfl, rfl, .inl ⟨by show -(2 ^ 64) < (c + 7919 * k + 1) * 48271 % 2147483647; omega, by show (c + 7919 * k + 1) * 48271 % 2147483647 < 2 ^ 64; omega⟩, _, _, rfl, rfl, (by show (0 : Int) < 2147483647; decide), q⟩
def sp_Lbad : Sp := fun vs H Q _ => ∃ c : Int, vs = [.int c] ∧ ∀ ws ∈ BADW, ∀ H', Same H H' → Q (.str (lineS ws)) H'
abbrev s_Lbad : Stmt := top 43
theorem sc_Lbad : FnScope ["_law_cell", "_law_some"] ["_law_cell"] (defScope s_Lbad) := ⟨rfl, rfl, rfl, by decide +kernel, rfl, by decide +kernel, by decide +kernel⟩
theorem bad_all : ([("" : Str), " ", "tie", "tie a", "tie a b ", "tie  a b", " tie a b", "Tie a b", "ties a b", "tie a b 0"] : List Str) = BW0.map lineS := by decide +kernel
theorem bad_all1 : ([("tie a b 100" : Str), "tie a b 01", "tie a b x", "tie a b -1", "tie a b +1", "tie a b 1 1", "tie a b 1_0"] : List Str) = BW1.map lineS := by decide +kernel
theorem bad_all2 : ([("tie a zzz" : Str), "tie zzz b", "tie b a", "tie b b", "tie c b", "tie a a", "tie c c 3", "house"] : List Str) = BW2.map lineS := by decide +kernel
theorem bad_all3 : ([("house zz" : Str), "house a", "houses zz", "post", "post a", "post c", "post Zz", "post ninelette"] : List Str) = BW3.map lineS := by decide +kernel
theorem bad_all4 : ([("post z1" : Str), "post  zz", "post zz ", "post zz 1", "listener", "listener b", "listeners zz", "line"] : List Str) = BW4.map lineS := by decide +kernel
theorem bad_all5 : ([("listener Q" : Str), "a", ("tie a b " : Str) ++ repS "9" (30 : Int).toNat] : List Str) = BW5.map lineS := by decide +kernel
def bE : Nat → List Expr := fun i => match (defBody s_Lbad)[i]? with
  | some (.Assign _ (.List e _) _) => e
  | some (.Assign _ (.BinOp _ _ (.List e _) _) _) => e
  | _ => []
def bPut (st : Stmt) (es : List Expr) : Stmt := match st with
  | .Assign tg (.List _ p) q => .Assign tg (.List es p) q
  | .Assign tg (.BinOp l o (.List _ p) p2) q => .Assign tg (.BinOp l o (.List es p) p2) q
  | st => st
def bWith (e0 e1 e2 e3 e4 : List Expr) : List Stmt := match defBody s_Lbad with
  | s0 :: s1 :: s2 :: s3 :: s4 :: r => bPut s0 e0 :: bPut s1 e1 :: bPut s2 e2 :: bPut s3 e3 :: bPut s4 e4 :: r
  | b => b
theorem ok_Lbad {f : Addr} {fd : FuncData} (F : Fun K "_law_bad" "_law_bad" s_Lbad f fd) : FnOk P w K mg base CX0 1 f fd ["_law_cell"] sp_Lbad := by
  refine F.ok sc_Lbad (fun vs H Q E h => ?_) (fun cdv A outer s H vs Q E hr h => ?_)
  · obtain ⟨c, rfl, _⟩ := h
    rfl
  · obtain ⟨c, rfl, q⟩ := h
    have ND := sc_Lbad.nd
    obtain ⟨es0, es1, es2, es3, es4, cs0, cs1, cs2, cs3, cs4, he0, he1, he2, he3, he4, hc0, hc1, hc2, hc3, hc4, hb⟩ : ∃ es0 es1 es2 es3 es4 cs0 cs1 cs2 cs3 cs4, es0 = cs0.map cstS ∧ es1 = cs1.map cstS ∧ es2 = cs2.map cstS ∧ es3 = cs3.map cstS ∧ es4 = cs4.map cstS ∧
        cs0.map (·.1) = BW0.map lineS ∧ cs1.map (·.1) = BW1.map lineS ∧ cs2.map (·.1) = BW2.map lineS ∧ cs3.map (·.1) = BW3.map lineS ∧ cs4.map (·.1) = BW4.map lineS ∧ defBody s_Lbad = bWith es0 es1 es2 es3 es4 :=
      ⟨bE 0, bE 1, bE 2, bE 3, bE 4, strsOf (bE 0), strsOf (bE 1), strsOf (bE 2), strsOf (bE 3), strsOf (bE 4), rfl, rfl, rfl, rfl, rfl, (show _ = _ from rfl).trans bad_all, (show _ = _ from rfl).trans bad_all1, (show _ = _ from rfl).trans bad_all2, (show _ = _ from rfl).trans bad_all3, (show _ = _ from rfl).trans bad_all4, rfl⟩
    rw [hb]
    refine ⟨_, (pss_cons (ps_set (i := 1) ND rfl (by first | exact Or.inl rfl | exact Or.inr rfl) (pe_lstS (pa_strs he0 hc0)))
  (pss_cons (ps_set (i := 1) ND rfl (by first | exact Or.inl rfl | exact Or.inr rfl) (pe_op op_catS (pv 1) (pe_lstS (pa_strs he1 hc1))))
  (pss_cons (ps_set (i := 1) ND rfl (by first | exact Or.inl rfl | exact Or.inr rfl) (pe_op op_catS (pv 1) (pe_lstS (pa_strs he2 hc2))))
  (pss_cons (ps_set (i := 1) ND rfl (by first | exact Or.inl rfl | exact Or.inr rfl) (pe_op op_catS (pv 1) (pe_lstS (pa_strs he3 hc3))))
  (pss_cons (ps_set (i := 1) ND rfl (by first | exact Or.inl rfl | exact Or.inr rfl) (pe_op op_catS (pv 1) (pe_lstS (pa_strs he4 hc4))))
  (pss_one (ps_ret (pe_ix (ixlK K) (pe_op op_catS (pv 1) (pe_lstS (pa_cons pe_str (pa_cons pe_str (pa_cons (pe_op op_add_str pe_str (pe_op op_rep_str pe_str pe_int)) pa_nil))))) (pe_op op_mod (pv 0) pe_int) (fun _ _ => rfl))))))))), ?_⟩
    refine ⟨(by rw [List.length_map, List.length_map]; show 10 ≤ sizeLine; decide), fun l0 H0 e0 h0 hl0 => ?_⟩
    refine ⟨_, rfl, (by rw [List.length_map, List.length_map]; show 7 ≤ sizeLine; decide), fun a1 G1 f1 g1 ha1 => ⟨l0, a1, _, _, rfl, rfl, f1 _ _ hl0, ha1, (by simp only [List.length_map]; show 17 ≤ sizeLine; decide), fun l1 H1 e1 h1 hl1 => ?_⟩⟩
    have hl1 : H1 l1 = some (.lst (((BW0 ++ BW1).map lineS).map V.str)) := by rw [hl1]; simp only [List.map_append]
    refine ⟨_, rfl, (by rw [List.length_map, List.length_map]; show 8 ≤ sizeLine; decide), fun a2 G2 f2 g2 ha2 => ⟨l1, a2, _, _, rfl, rfl, f2 _ _ hl1, ha2, (by simp only [List.length_map]; show 25 ≤ sizeLine; decide), fun l2 H2 e2 h2 hl2 => ?_⟩⟩
    have hl2 : H2 l2 = some (.lst (((BW0 ++ BW1 ++ BW2).map lineS).map V.str)) := by rw [hl2]; simp only [List.map_append]
    refine ⟨_, rfl, (by rw [List.length_map, List.length_map]; show 8 ≤ sizeLine; decide), fun a3 G3 f3 g3 ha3 => ⟨l2, a3, _, _, rfl, rfl, f3 _ _ hl2, ha3, (by simp only [List.length_map]; show 33 ≤ sizeLine; decide), fun l3 H3 e3 h3 hl3 => ?_⟩⟩
    have hl3 : H3 l3 = some (.lst (((BW0 ++ BW1 ++ BW2 ++ BW3).map lineS).map V.str)) := by rw [hl3]; simp only [List.map_append]
    refine ⟨_, rfl, (by rw [List.length_map, List.length_map]; show 8 ≤ sizeLine; decide), fun a4 G4 f4 g4 ha4 => ⟨l3, a4, _, _, rfl, rfl, f4 _ _ hl3, ha4, (by simp only [List.length_map]; show 41 ≤ sizeLine; decide), fun l4 H4 e4 h4 hl4 => ?_⟩⟩
    have hl4 : H4 l4 = some (.lst (((BW0 ++ BW1 ++ BW2 ++ BW3 ++ BW4).map lineS).map V.str)) := by rw [hl4]; simp only [List.map_append]
    refine ⟨_, rfl, _, _, rfl, rfl, by decide, by decide, by decide, by decide, by decide +kernel, _, _, rfl, rfl, by decide +kernel, (by show 3 ≤ sizeLine; decide), fun a5 G5 f5 g5 ha5 => ⟨l4, a5, _, _, rfl, rfl, f5 _ _ hl4, ha5, (by simp only [List.length_map]; show 44 ≤ sizeLine; decide), fun l5 H5 e5 h5 hl5 => ?_⟩⟩
    have hl5 : H5 l5 = some (.lst ((BADW.map lineS).map V.str)) := by
      rw [hl5]
      unfold BADW
      rw [List.map_append (l₁ := BW0 ++ BW1 ++ BW2 ++ BW3 ++ BW4), List.map_append, ← bad_all5]
      rfl
    have r0 : 0 ≤ c % 44 := Int.emod_nonneg _ (by decide)
    have r1 : c % 44 < 44 := Int.emod_lt_of_pos _ (by decide)
    have hlen : ((BADW.map lineS).map V.str).length = 44 := by rw [List.length_map, List.length_map]; decide
    obtain ⟨v, hv, hat⟩ := atI_of (xs := (BADW.map lineS).map V.str) r0 (by rw [hlen]; exact r1)
    rw [List.map_map, List.getElem?_map] at hv
    obtain ⟨ws, hw, rfl⟩ := Option.map_eq_some_iff.mp hv
    exact ⟨_, rfl, _, _, rfl, rfl, (by show (0 : Int) < 44; decide), l5, _, _, _, rfl, rfl, SqL.of hl5, hat, q ws (List.mem_of_getElem? hw) H5 (e0.trans (f1.trans (e1.trans (f2.trans (e2.trans (f3.trans (e3.trans (f4.trans (e4.trans (f5.trans e5))))))))))⟩
end
end K25
set_option maxRecDepth 100000
namespace K25
open PySem L2
open PyProof.Rows (boot_list boot_int boot_bool boot_tuple boot_str boot_dict boot_all)
theorem s_ls (i : Nat) (h : i < 9) : atI (("bcdefghij" : Str)).cps.toList (i : Int) = some (98 + i) ∧ ("listener " : Str) ++ ⟨#[98 + i]⟩ = lineS [kdS .listener, (⟨#[98 + i]⟩ : Str)] := by
  have : ∀ i : Fin 9, atI (("bcdefghij" : Str)).cps.toList (i.val : Int) = some (98 + i.val) ∧ ("listener " : Str) ++ ⟨#[98 + i.val]⟩ = lineS [kdS .listener, (⟨#[98 + i.val]⟩ : Str)] := by decide +kernel
  exact this ⟨i, h⟩
theorem s_ps (i : Nat) (h : i < 21) : atI (("abcdefghijklmnopqrstu" : Str)).cps.toList (i : Int) = some (97 + i) ∧ ("post q" : Str) ++ ⟨#[97 + i]⟩ = lineS [kdS .post, (⟨#[113, 97 + i]⟩ : Str)] := by
  have : ∀ i : Fin 21, atI (("abcdefghijklmnopqrstu" : Str)).cps.toList (i.val : Int) = some (97 + i.val) ∧ ("post q" : Str) ++ ⟨#[97 + i.val]⟩ = lineS [kdS .post, (⟨#[113, 97 + i.val]⟩ : Str)] := by decide +kernel
  exact this ⟨i, h⟩
theorem s_ts (i : Nat) (h : i < 41) : ("tie a b " : Str) ++ numS (1 + (i : Int)) = lineS (tieC i) ∧ (numS (1 + (i : Int))).length ≤ 2 := by
  have : ∀ i : Fin 41, ("tie a b " : Str) ++ numS (1 + ((i : Nat) : Int)) = lineS (tieC i) ∧ (numS (1 + ((i : Nat) : Int))).length ≤ 2 := by decide +kernel
  exact this ⟨i, h⟩
section
variable {P : Program} {w : World} {K : PySem.W.Frag} {mg : Str → Option Value} {base : Heap}
def sp_Lcrowd : Sp := fun vs H Q _ => ∃ w : Int, vs = [.int w] ∧ ∀ l H', Same H H' → H l = none → H' l = some (.lst (((crowdL w).map lineS).map V.str)) → Q (.ref l) H'
abbrev s_Lcrowd : Stmt := top 45
theorem sc_Lcrowd : FnScope ["_law_way"] ["_law_way"] (defScope s_Lcrowd) := ⟨rfl, rfl, rfl, by decide +kernel, rfl, by decide +kernel, by decide +kernel⟩
theorem ok_Lcrowd {f : Addr} {fd : FuncData} (F : Fun K "_law_crowd" "_law_crowd" s_Lcrowd f fd) (T : TxtA mg) : FnOk P w K mg base CX0 1 f fd ["_law_way"] sp_Lcrowd := by
  refine F.ok sc_Lcrowd (fun vs H Q E h => ?_) (fun cdv A outer s H vs Q E hr h => ?_)
  · obtain ⟨c, rfl, _⟩ := h
    rfl
  · obtain ⟨c, rfl, q⟩ := h
    have ND := sc_Lcrowd.nd
    refine ⟨_, (pss_cons (ps_if (pt_cmpR op_eq (pv 0) pe_int (nomark _))
    (pss_one (ps_ret (pe_op op_catS (pe_lstS (pa_cons pe_str pa_nil)) (pe_comp rfl (compScope_of (nT := 1) (js := []) (N' := ["_law_k"]) rfl rfl (by kernel_rfl)) (pi_range1 rfl T.n_range (pa_cons pe_int pa_nil))
    (fun _ _ _ _ _ => (pg_name (i := 0) (show List.Nodup (["_law_k"] : List Str) by decide +kernel) rfl (by first | exact Or.inl rfl | exact Or.inr rfl)))
    (fun _ _ _ _ _ => pif_nil)
    (fun _ _ _ _ _ => (pe_op op_add_str pe_str (pe_ix ix_str pe_str (pv 0) (fun _ _ => rfl))))))))
    pss_nil)
  (pss_cons (ps_if (pt_cmpR op_eq (pv 0) pe_int (nomark _))
    (pss_one (ps_ret (pe_comp rfl (compScope_of (nT := 1) (js := []) (N' := ["_law_k"]) rfl rfl (by kernel_rfl)) (pi_range1 rfl T.n_range (pa_cons pe_int pa_nil))
    (fun _ _ _ _ _ => (pg_name (i := 0) (show List.Nodup (["_law_k"] : List Str) by decide +kernel) rfl (by first | exact Or.inl rfl | exact Or.inr rfl)))
    (fun _ _ _ _ _ => pif_nil)
    (fun _ _ _ _ _ => (pe_op op_add_str pe_str (pe_ix ix_str pe_str (pv 0) (fun _ _ => rfl)))))))
    pss_nil)
  (pss_one (ps_ret (pe_op op_catS (pe_lstS (pa_cons pe_str (pa_cons pe_str pa_nil))) (pe_comp rfl (compScope_of (nT := 1) (js := []) (N' := ["_law_k"]) rfl rfl (by kernel_rfl)) (pi_range1 rfl T.n_range (pa_cons pe_int pa_nil))
    (fun _ _ _ _ _ => (pg_name (i := 0) (show List.Nodup (["_law_k"] : List Str) by decide +kernel) rfl (by first | exact Or.inl rfl | exact Or.inr rfl)))
    (fun _ _ _ _ _ => pif_nil)
    (fun _ _ _ _ _ => (pe_op op_add_str pe_str (pe_callTy call_str_int rfl T.n_str boot_str (pa_cons (pe_op op_add pe_int (pv 0)) pa_nil)))))))))), ?_⟩
    refine ⟨_, rfl, rfl, _, rfl, ite2 (fun g => ?_) (fun g => ?_)⟩
    · have g : c = 0 := by have := of_decide_eq_true g; injection this
      have ec : crowdL c = CR0 := by unfold crowdL; rw [if_pos g]
      rw [ec] at q
      refine ⟨(by show 1 ≤ sizeLine; decide), fun a1 H1 e1 h1 ha1 => ?_⟩
      refine ⟨9, rfl, by decide, by decide, compV_range (n := 9) (fun i => .str (lineS [kdS .listener, (⟨#[98 + i]⟩ : Str)])) (by decide) (fun i H2 hi e2 => ?_) (fun l H3 h3 e3 hl3 => ?_)⟩
      · obtain ⟨p1, p2⟩ := s_ls i hi
        refine ⟨_, rfl, _, _, _, rfl, rfl, (by decide), (by rw [Int.zero_add]; exact p1), _, _, rfl, rfl, ?_, ?_, Same.refl _⟩
        · show 9 + 1 ≤ sizeLine; decide
        · rw [← p2]
      · refine ⟨a1, l, _, _, rfl, rfl, e3 _ _ ha1, hl3, (by show 1 + 9 ≤ sizeLine; decide), fun l5 H5 e5 h5 hl5 => q l5 H5 (e1.trans (e3.trans e5)) ?_ ?_⟩
        · cases hx : H l5 with
          | none => rfl
          | some o => rw [e3 _ _ (e1 _ _ hx)] at h5; cases h5
        · rw [hl5]
          rfl
    · have g : ¬ c = 0 := fun z => g (decide_eq_true (by rw [z]))
      refine ⟨_, rfl, rfl, _, rfl, ite2 (fun g2 => ?_) (fun g2 => ?_)⟩
      · have g2 : c = 1 := by have := of_decide_eq_true g2; injection this
        have ec : crowdL c = CR1 := by unfold crowdL; rw [if_neg g, if_pos g2]
        rw [ec] at q
        refine ⟨21, rfl, by decide, by decide, compV_range (n := 21) (fun i => .str (lineS [kdS .post, (⟨#[113, 97 + i]⟩ : Str)])) (by decide) (fun i H2 hi e2 => ?_) (fun l H3 h3 e3 hl3 => ?_)⟩
        · obtain ⟨p1, p2⟩ := s_ps i hi
          refine ⟨_, rfl, _, _, _, rfl, rfl, (by decide), (by rw [Int.zero_add]; exact p1), _, _, rfl, rfl, ?_, ?_, Same.refl _⟩
          · show 6 + 1 ≤ sizeLine; decide
          · rw [← p2]
        · refine q l H3 e3 h3 ?_
          rw [hl3]
          unfold CR1
          rw [List.map_map, List.map_map]
          rfl
      · have g2 : ¬ c = 1 := fun z => g2 (decide_eq_true (by rw [z]))
        have ec : crowdL c = CR2 := by unfold crowdL; rw [if_neg g, if_neg g2]
        rw [ec] at q
        refine ⟨(by show 2 ≤ sizeLine; decide), fun a1 H1 e1 h1 ha1 => ?_⟩
        refine ⟨41, rfl, by decide, by decide, compV_range (n := 41) (fun i => .str (lineS (tieC i))) (by decide) (fun i H2 hi e2 => ?_) (fun l H3 h3 e3 hl3 => ?_)⟩
        · obtain ⟨p1, p2⟩ := s_ts i hi
          refine ⟨_, rfl, _, _, rfl, rfl, _, rfl, ?_, _, _, rfl, rfl, ?_, ?_, Same.refl _⟩
          · have := Nat.log2_le_self (1 + (0 + (i : Int))).natAbs
            show (1 + (0 + (i : Int))).natAbs.log2 < 1920
            omega
          · show 8 + (numS (1 + (0 + (i : Int)))).length ≤ sizeLine
            rw [Int.zero_add]
            have : sizeLine = 2 ^ 24 := rfl
            omega
          · rw [← p1]
            show V.str (("tie a b " : Str) ++ numS (1 + (0 + (i : Int)))) = _
            rw [Int.zero_add]
        · refine ⟨a1, l, _, _, rfl, rfl, e3 _ _ ha1, hl3, (by show 2 + 41 ≤ sizeLine; decide), fun l5 H5 e5 h5 hl5 => q l5 H5 (e1.trans (e3.trans e5)) ?_ ?_⟩
          · cases hx : H l5 with
            | none => rfl
            | some o => rw [e3 _ _ (e1 _ _ hx)] at h5; cases h5
          · rw [hl5]
            unfold CR2 crP
            rw [List.map_cons, List.map_cons, List.map_cons, List.map_cons, List.map_map, List.map_map]
            rfl
end
end K25
set_option maxRecDepth 100000
namespace K25
open PySem L2
open PyProof.Rows (boot_list boot_int boot_bool boot_tuple boot_str boot_dict boot_all)
theorem cut_take (xs : List V) (m : Nat) : cutV xs none (some (m : Int)) = xs.take m := by
  unfold cutV
  rw [HT.sIx_none, HT.sIx_nat]
  simp
theorem cut_drop (xs : List V) (m : Nat) : cutV xs (some (m : Int)) none = xs.drop m := by
  unfold cutV
  rw [HT.sIx_none, HT.sIx_nat]
  by_cases h : m ≤ xs.length
  · rw [show min m xs.length = m by omega]
    exact List.take_of_length_le (by rw [List.length_drop]; exact Nat.le_refl _)
  · rw [show min m xs.length = xs.length by omega, List.drop_length, List.drop_of_length_le (by omega), List.take_nil]
theorem cut_last (xs : List V) : cutV xs none (some (-1)) = xs.dropLast := by
  unfold cutV
  rw [HT.sIx_none]
  have : HT.sIx xs.length xs.length (some (-1)) = xs.length - 1 := by
    unfold HT.sIx
    simp
    omega
  rw [this, List.drop_zero, Nat.sub_zero, List.dropLast_eq_take]
theorem cut_few (xs : List V) : (cutV xs (some 2) (some 32)).length ≤ 30 := by
  unfold cutV
  rw [show (2 : Int) = ((2 : Nat) : Int) from rfl, show (32 : Int) = ((32 : Nat) : Int) from rfl, HT.sIx_nat, HT.sIx_nat, List.length_take, List.length_drop]
  omega
theorem cut_mem {xs : List V} {lo hi : Option Int} {v : V} (h : v ∈ cutV xs lo hi) : v ∈ xs := List.mem_of_mem_drop (List.mem_of_mem_take h)
structure LG (nm : List Str) (ls : List (List Str)) (n : Nat) (S : NS) : Prop where
  ln : ∀ ws ∈ ls, LnG ws
  run : runL S0 0 ls = .inr S
  tp : TP nm n S
  bc : ∃ t ∈ S.ties, t.2.1 = "b" ∧ t.2.2.1 = "c"
  pre : ∀ j, nm.length + 1 ≤ j → j ≤ ls.length → ∃ Sj, runL S0 0 (ls.take j) = .inr Sj ∧ Facts nm Sj
  fst : ∃ r, ls = [kdS .house, "a"] :: r
  len : ls.length = nm.length + n
theorem LG.snoc {nm : List Str} {ls : List (List Str)} {n : Nat} {S : NS} {ws : List Str} {x y : Str} {d : Int} (h : LG nm ls n S) (ha : ("a" : Str) ∈ nm) (hw : LnG ws) (hl : lineR S ws = some (S.tie x y d)) (hu : Up nm x y) : LG nm (ls ++ [ws]) (n + 1) (S.tie x y d) := by
  have hr := run_snoc h.run hl
  have htp := h.tp.tie (d := d) hu
  have hbc : ∃ t ∈ (S.tie x y d).ties, t.2.1 = "b" ∧ t.2.2.1 = "c" := by
    obtain ⟨t, ht, e⟩ := h.bc
    exact ⟨t, List.mem_append_left _ ht, e⟩
  refine ⟨fun z hz => ?_, hr, htp, hbc, fun j h1 h2 => ?_, ?_, ?_⟩
  · rcases List.mem_append.mp hz with hz | hz
    · exact h.ln z hz
    · rw [List.mem_singleton.mp hz]; exact hw
  · rw [List.length_append, List.length_singleton] at h2
    by_cases hj : j ≤ ls.length
    · rw [List.take_append_of_le_length hj]
      exact h.pre j h1 hj
    · rw [List.take_of_length_le (by rw [List.length_append, List.length_singleton]; omega)]
      exact ⟨_, hr, htp.facts ha hbc⟩
  · obtain ⟨r, e⟩ := h.fst
    exact ⟨r ++ [ws], by rw [e]; rfl⟩
  · rw [List.length_append, List.length_singleton, h.len]
    omega
theorem house_ne : (lineS [kdS .house, "a"]).cps.toList ≠ [] := by decide
theorem LG.lsw {nm : List Str} {ls : List (List Str)} {n : Nat} {S : NS} (h : LG nm ls n S) (hn : nm.length ≤ 8) (h32 : n ≤ 31) : LsW ls := by
  obtain ⟨r, e⟩ := h.fst
  exact LsW.of h.ln (by rw [e]; exact fun z => nomatch z) (by rw [h.len]; omega) ⟨_, r, e, house_ne⟩
theorem kd_bl : ("listener " : Str) = kdS .listener ++ BL ∧ ("post " : Str) = kdS .post ++ BL := by decide
theorem line2 (k : Kd) (x : Str) : kdS k ++ BL ++ x = lineS [kdS k, x] := rfl
theorem house_line : ("house a" : Str) = lineS [kdS .house, "a"] := by decide
theorem bc_line : ("tie b c" : Str) = lineS ["tie", "b", "c"] := by decide
theorem fault_nl : ("\n" : Str) = textL [([""] : List Str), ([""] : List Str)] := by decide
theorem nl_lsw : LsW [([""] : List Str), ([""] : List Str)] := by
  have h : ∀ ws ∈ [([""] : List Str), ([""] : List Str)], LnG ws := fun ws hw => lnB_of (by
    have : ws = ([""] : List Str) := by simpa using hw
    rw [this]; decide +kernel)
  exact ⟨fun ws hw => (h ws hw).w, (fun z => nomatch z), by show 2 ≤ 60; decide, by decide +kernel⟩
theorem nl_run : runL S0 0 [([""] : List Str), ([""] : List Str)] = .inl 0 := by
  have : lineR S0 [("" : Str)] = none := by
    rw [lineR_post (by decide)]
    rfl
  show (match lineR S0 [("" : Str)] with | none => Sum.inl 0 | some S' => runL S' 1 [([""] : List Str)]) = _
  rw [this]
theorem ite_ne {A B : Prop} {α : Type} {a b : α} {inst : Decidable (a = b)} (h : a = b) (hB : B) : if (!decide (a = b)) = true then A else B := by
  rw [decide_eq_true h]
  exact iteF hB
theorem ite_eq {A B : Prop} {α : Type} {a b : α} {inst : Decidable (a = b)} (h : a = b) (hA : A) : if decide (a = b) = true then A else B := by
  rw [decide_eq_true h]
  exact iteT hA
theorem lines100 {ls : List (List Str)} (h : ∀ ws ∈ ls, LnG ws) : ∀ z ∈ ls.map lineS, z.length ≤ 100 := fun z hz => by
  obtain ⟨ws, hw, rfl⟩ := List.mem_map.mp hz
  exact (h ws hw).len
structure LWat (ls : List (List Str)) (at' : Nat) : Prop where
  ln : ∀ ws ∈ ls, LnG ws
  lsw : LsW ls
  run : runL S0 0 ls = .inl at'
theorem LWat.snoc {ls : List (List Str)} {k : Nat} (h : LWat ls k) (hf : ls.length ≤ 59) (hne : ∃ ws r, ls = ws :: r ∧ (lineS ws).cps.toList ≠ []) {ws : List Str} (hw : LnG ws) : LWat (ls ++ [ws]) k := by
  have hl : ∀ z ∈ ls ++ [ws], LnG z := fun z hz => by
    rcases List.mem_append.mp hz with hz | hz
    · exact h.ln z hz
    · rw [List.mem_singleton.mp hz]; exact hw
  refine ⟨hl, LsW.of hl (by simp) (by rw [List.length_append, List.length_singleton]; omega) ?_, ?_⟩
  · obtain ⟨w0, r, e, hn⟩ := hne
    exact ⟨w0, r ++ [ws], by rw [e]; rfl, hn⟩
  · rw [runL_append, h.run]
theorem LG.worse {nm : List Str} {ls : List (List Str)} {n : Nat} {S : NS} (h : LG nm ls n S) (hnm : ∃ m : Nat, 3 ≤ m ∧ m ≤ 8 ∧ nm = NM.take m) (hn : nm.length ≤ 8) (h32 : n ≤ 31) {j : Nat} (h1 : nm.length + 1 ≤ j) (h2 : j ≤ ls.length) {ws : List Str} (hw : ws ∈ BADW) :
    LWat (ls.take j ++ [ws] ++ ls.drop j) j ∧ ∃ r, ls.take j ++ [ws] ++ ls.drop j = [kdS .house, "a"] :: r := by
  obtain ⟨Sj, r1, F⟩ := h.pre j h1 h2
  obtain ⟨m, m3, m8, em⟩ := hnm
  have href : refB nm ws = true := by
    rw [em]
    exact bad_ref ⟨m, by omega⟩ m3 ws hw
  have hl : ∀ z ∈ ls.take j ++ [ws] ++ ls.drop j, LnG z := fun z hz => by
    rcases List.mem_append.mp hz with hz | hz
    · rcases List.mem_append.mp hz with hz | hz
      · exact h.ln z (List.mem_of_mem_take hz)
      · rw [List.mem_singleton.mp hz]; exact lnB_of (bad_ln ws hw)
    · exact h.ln z (List.mem_of_mem_drop hz)
  have hst := run_stop (l2 := ls.drop j) r1 (refB_sound F href)
  have hlen : (ls.take j).length = j := by rw [List.length_take]; omega
  have hf : ∃ r, ls.take j ++ [ws] ++ ls.drop j = [kdS .house, "a"] :: r := by
    obtain ⟨r, e⟩ := h.fst
    cases j with
    | zero => omega
    | succ j => exact ⟨r.take j ++ [ws] ++ r.drop j, by rw [e]; rfl⟩
  refine ⟨⟨hl, ?_, ?_⟩, hf⟩
  · obtain ⟨r, e⟩ := hf
    refine LsW.of hl (by simp) ?_ ⟨_, r, e, house_ne⟩
    rw [List.length_append, List.length_append, List.length_take, List.length_drop, List.length_singleton]
    have := h.len
    omega
  · rw [List.append_assoc]
    show runL S0 0 (ls.take j ++ ws :: ls.drop j) = _
    rw [hst, hlen]
theorem bad_line : LnG ["bad", "line"] ∧ ("bad line" : Str) = lineS ["bad", "line"] := ⟨lnB_of (by decide +kernel), by decide⟩
theorem S0_small : S0.Small := ⟨by decide, by decide, fun p hp => (nomatch hp), fun t ht => (nomatch ht)⟩
theorem S0_text : netText S0 = "" := by decide
def LsAt (H : Hp) (l : Addr) (ls : List (List Str)) : Prop := H l = some (.lst ((ls.map lineS).map V.str))
section
variable {P : Program} {w : World} {K : PySem.W.Frag} {mg : Str → Option Value} {base : Heap}
theorem sqm {H H' : Hp} {a : Addr} {xs : List V} (h : SqL K H a xs) (e : Same H H') : SqL K H' a xs := by
  rcases h with (h | h) | h
  · exact .inl (.inl (e _ _ h))
  · obtain ⟨o, h⟩ := h
    exact .inl (.inr ⟨o, e _ _ h⟩)
  · exact .inr h
abbrev s_law : Stmt := top 46
theorem sc_law : FnScope ["_law_script", "_law_first", "_law_names", "_law_lines", "_law_k", "_law_cell", "_law_one", "_law_other", "_law_words", "_law_at", "_law_worse", "_law_crowd_here"] ["_law_script"] (defScope s_law) := ⟨rfl, rfl, rfl, by decide +kernel, rfl, by decide +kernel, by decide +kernel⟩
def sp_law (K : PySem.W.Frag) : Sp := fun vs H Q _ => ∃ (a : Addr) (ns : List Int), vs = [.ref a] ∧ SqL K H a (ns.map V.int) ∧ ns.length ≤ 63 ∧ ∀ H', Q (.bl true) H'
def lE : List Expr := match defBody s_law with
  | _ :: .Assign _ (.Subscript (.List e _) _ _) _ :: _ => e
  | _ => []
def lWith (es : List Expr) : List Stmt := match defBody s_law with
  | s0 :: .Assign tg (.Subscript (.List _ p) sl p2) q :: r => s0 :: .Assign tg (.Subscript (.List es p) sl p2) q :: r
  | b => b
theorem ok_law {c : Cl} {nl : Addr} {f : Addr} {fd : FuncData} (F : Fun K "law" "law" s_law f fd) (T : TxtA mg) (D_Lcell_at : Df P w K mg base 1 "_law_cell_at" ["_law_script", "_law_k"] (sp_Lcell_at K)) (D_Lmixed : Df P w K mg base 1 "_law_mixed" ["_law_cell", "_law_k"] sp_Lmixed) (D_Lbad : Df P w K mg base 1 "_law_bad" ["_law_cell"] sp_Lbad)
    (D_Lfault : Df P w K mg base 9 "_law_fault" ["_law_text"] sp_Lfault) (D_Lcrowd : Df P w K mg base 1 "_law_crowd" ["_law_way"] sp_Lcrowd) (D_read_net : DfC P w K mg base 8 "read_net" ["text"] (sp_read_net c nl)) (D_net_text : Df P w K mg base 5 "net_text" ["net"] (sp_net_text c)) :
    FnOk P w K mg base CX0 10 f fd ["_law_script"] (sp_law K) := by
  refine F.ok sc_law (fun vs H Q E h => ?_) (fun cdv A outer s H vs Q E hr h => ?_)
  · obtain ⟨a, ns, rfl, _⟩ := h
    rfl
  · obtain ⟨a, cs, rfl, ha, hcs, q⟩ := h
    have ND := sc_law.nd
    obtain ⟨es0, cs0, he0, hc0, hb⟩ : ∃ es0 cs0, es0 = cs0.map cstS ∧ cs0.map (·.1) = NM ∧ defBody s_law = lWith es0 := ⟨lE, strsOf lE, rfl, rfl, rfl⟩
    rw [hb]
    refine ⟨_, (pss_cons (ps_set (i := 1) ND rfl (by first | exact Or.inl rfl | exact Or.inr rfl) (pe_callD D_Lcell_at (hr.mono (by decide)) rfl (pa_cons (pv 0) (pa_cons pe_int pa_nil))))
  (pss_cons (ps_set (i := 2) ND rfl (by first | exact Or.inl rfl | exact Or.inr rfl) (pe_slice (sllS K) (pe_lstS (pa_strs he0 hc0)) po_none (po_some (pe_op op_add pe_int (pe_op op_mod (pv 1) pe_int)))))
  (pss_cons (ps_set (i := 3) ND rfl (by first | exact Or.inl rfl | exact Or.inr rfl) (pe_lstS (pa_cons pe_str pa_nil)))
  (pss_cons (ps_for PassesOwn.never rfl (pi_range2 rfl T.n_range (pa_cons pe_int (pa_cons (pe_callB (lenK K) rfl T.n_len boot_len (pa_cons (pv 2) pa_nil)) pa_nil))) (pg_name (i := 4) ND rfl (by first | exact Or.inl rfl | exact Or.inr rfl))
    (pss_one (ps_expr (bmK K PySem.F.plainAttrs_list PySem.F.slot_list_append PySem.F.type_list_append mt_append (pv 3) (pa_cons (pe_op op_add_str (pe_ix (ixlK K) (pe_lstS (pa_cons pe_str (pa_cons pe_str pa_nil))) (pe_op op_mod (pe_callD D_Lmixed (hr.mono (by decide)) rfl (pa_cons (pv 1) (pa_cons (pv 4) pa_nil))) pe_int) (fun _ _ => rfl)) (pe_ix (ixlK K) (pv 2) (pv 4) (fun _ _ => rfl))) pa_nil)))))
  (pss_cons (ps_expr (bmK K PySem.F.plainAttrs_list PySem.F.slot_list_append PySem.F.type_list_append mt_append (pv 3) (pa_cons pe_str pa_nil)))
  (pss_cons (ps_for PassesOwn.never rfl (pilK K (pe_slice (sllS K) (pv 0) (po_some pe_int) (po_some pe_int))) (pg_name (i := 5) ND rfl (by first | exact Or.inl rfl | exact Or.inr rfl))
    (pss_cons (ps_set (i := 6) ND rfl (by first | exact Or.inl rfl | exact Or.inr rfl) (pe_op op_mod (pe_callD D_Lmixed (hr.mono (by decide)) rfl (pa_cons (pv 5) (pa_cons pe_int pa_nil))) (pe_op op_sub (pe_callB (lenK K) rfl T.n_len boot_len (pa_cons (pv 2) pa_nil)) pe_int)))
  (pss_cons (ps_set (i := 7) ND rfl (by first | exact Or.inl rfl | exact Or.inr rfl) (pe_op op_add (pe_op op_add (pv 6) pe_int) (pe_op op_mod (pe_callD D_Lmixed (hr.mono (by decide)) rfl (pa_cons (pv 5) (pa_cons pe_int pa_nil))) (pe_op op_sub (pe_op op_sub (pe_callB (lenK K) rfl T.n_len boot_len (pa_cons (pv 2) pa_nil)) pe_int) (pv 6)))))
  (pss_cons (ps_set (i := 8) ND rfl (by first | exact Or.inl rfl | exact Or.inr rfl) (pe_op op_catS (pe_lstS (pa_cons pe_str (pa_cons (pe_ix (ixlK K) (pv 2) (pv 6) (fun _ _ => rfl)) (pa_cons (pe_ix (ixlK K) (pv 2) (pv 7) (fun _ _ => rfl)) pa_nil)))) (pe_op op_rep (pe_lstS (pa_cons (pe_callTy call_str_int rfl T.n_str boot_str (pa_cons (pe_op op_add pe_int (pe_op op_mod (pe_callD D_Lmixed (hr.mono (by decide)) rfl (pa_cons (pv 5) (pa_cons pe_int pa_nil))) pe_int)) pa_nil)) pa_nil)) (pe_op op_mod (pe_callD D_Lmixed (hr.mono (by decide)) rfl (pa_cons (pv 5) (pa_cons pe_int pa_nil))) pe_int))))
  (pss_one (ps_expr (bmK K PySem.F.plainAttrs_list PySem.F.slot_list_append PySem.F.type_list_append mt_append (pv 3) (pa_cons (bmK K PySem.F.plainAttrs_str PySem.F.slot_str_join PySem.F.type_str_join (mt_join K) pe_str (pa_cons (pv 8) pa_nil)) pa_nil))))))))
  (pss_cons (ps_if (pt_cmpR (neTK K eqk_opt (hu_of hr)) (pe_callD D_Lfault (hr.mono (by decide)) rfl (pa_cons (bmK K PySem.F.plainAttrs_str PySem.F.slot_str_join PySem.F.type_str_join (mt_join K) pe_str (pa_cons (pv 3) pa_nil)) pa_nil)) (pe_tupS (pa_cons pe_str (pa_cons pe_non pa_nil))) (nomark _))
    (pss_one (ps_ret pe_bl))
    pss_nil)
  (pss_cons (ps_set (i := 9) ND rfl (by first | exact Or.inl rfl | exact Or.inr rfl) (pe_op op_add (pe_op op_add (pe_callB (lenK K) rfl T.n_len boot_len (pa_cons (pv 2) pa_nil)) pe_int) (pe_op op_mod (pe_callD D_Lcell_at (hr.mono (by decide)) rfl (pa_cons (pv 0) (pa_cons pe_int pa_nil))) (pe_op op_sub (pe_callB (lenK K) rfl T.n_len boot_len (pa_cons (pv 3) pa_nil)) (pe_callB (lenK K) rfl T.n_len boot_len (pa_cons (pv 2) pa_nil))))))
  (pss_cons (ps_set (i := 10) ND rfl (by first | exact Or.inl rfl | exact Or.inr rfl) (pe_op op_catS (pe_op op_catS (pe_slice (sllS K) (pv 3) po_none (po_some (pv 9))) (pe_lstS (pa_cons (pe_callD D_Lbad (hr.mono (by decide)) rfl (pa_cons (pe_op op_fdiv (pe_callD D_Lcell_at (hr.mono (by decide)) rfl (pa_cons (pv 0) (pa_cons pe_int pa_nil))) pe_int) pa_nil)) pa_nil))) (pe_slice (sllS K) (pv 3) (po_some (pv 9)) po_none)))
  (pss_cons (ps_ifJ (pt_cmpR op_eq (pe_op op_mod (pe_op op_fdiv (pv 1) pe_int) pe_int) pe_int (nomark _))
    (pss_one (ps_expr (bmK K PySem.F.plainAttrs_list PySem.F.slot_list_append PySem.F.type_list_append mt_append (pv 10) (pa_cons pe_str pa_nil))))
    pss_nil)
  (pss_cons (ps_if (pt_cmpR (neTK K eqk_opt (hu_of hr)) (pe_callD D_Lfault (hr.mono (by decide)) rfl (pa_cons (bmK K PySem.F.plainAttrs_str PySem.F.slot_str_join PySem.F.type_str_join (mt_join K) pe_str (pa_cons (pv 10) pa_nil)) pa_nil)) (pe_tupS (pa_cons pe_str (pa_cons (pv 9) pa_nil))) (nomark _))
    (pss_one (ps_ret pe_bl))
    pss_nil)
  (pss_cons (ps_set (i := 11) ND rfl (by first | exact Or.inl rfl | exact Or.inr rfl) (pe_callD D_Lcrowd (hr.mono (by decide)) rfl (pa_cons (pe_op op_mod (pe_op op_fdiv (pv 1) pe_int) pe_int) pa_nil)))
  (pss_cons (ps_if (PW.pt (pw_or (pt_cmpR (neTK K eqk_opt (hu_of hr)) (pe_callD D_Lfault (hr.mono (by decide)) rfl (pa_cons (bmK K PySem.F.plainAttrs_str PySem.F.slot_str_join PySem.F.type_str_join (mt_join K) pe_str (pa_cons (pv 11) pa_nil)) pa_nil)) (pe_tupS (pa_cons pe_str (pa_cons (pe_op op_sub (pe_callB (lenK K) rfl T.n_len boot_len (pa_cons (pv 11) pa_nil)) pe_int) pa_nil))) (nomark _)) (pw_or1 (pt_cmpR (neTK K eqk_opt (hu_of hr)) (pe_callD D_Lfault (hr.mono (by decide)) rfl (pa_cons (bmK K PySem.F.plainAttrs_str PySem.F.slot_str_join PySem.F.type_str_join (mt_join K) pe_str (pa_cons (pe_slice (sllS K) (pv 11) po_none (po_some (pe_un un_neg pe_int))) pa_nil)) pa_nil)) (pe_tupS (pa_cons pe_str (pa_cons pe_non pa_nil))) (nomark _)))))
    (pss_one (ps_ret pe_bl))
    pss_nil)
  (pss_one (ps_ret (pe_and (pe_cmpR (eqTK K eqk_opt (hu_of hr)) (pe_callD D_Lfault (hr.mono (by decide)) rfl (pa_cons pe_str pa_nil)) (pe_tupS (pa_cons pe_str (pa_cons pe_int pa_nil))) (nomark _)) (pe_one (pe_cmpR op_eq (pe_callD D_net_text (hr.mono (by decide)) rfl (pa_cons (pe_callC on_noC D_read_net (hr.mono (by decide)) rfl (pa_cons pe_str pa_nil)) pa_nil)) pe_str (nomark _))))))))))))))))))), ?_⟩
    refine ⟨_, rfl, a, 0, cs, rfl, by decide, ha, fun c0 => ?_⟩
    have c1 : 0 ≤ c0 % 6 := Int.emod_nonneg _ (by decide)
    have c2 : c0 % 6 < 6 := Int.emod_lt_of_pos _ (by decide)
    refine ⟨(by rw [List.length_map]; show 8 ≤ sizeLine; decide), fun l0 H1 e1 h1 hl0 => ?_⟩
    refine ⟨_, rfl, _, _, rfl, rfl, (by show (0 : Int) < 6; decide), _, _, rfl, rfl, _, rfl, l0, _, rfl, SqL.of hl0, fun ln H2 e2 h2 hln => ?_⟩
    obtain ⟨m, hm⟩ : ∃ m : Nat, 3 + c0 % 6 = (m : Int) := ⟨(3 + c0 % 6).toNat, by omega⟩
    have m3 : 3 ≤ m := by omega
    have m8 : m ≤ 8 := by omega
    rw [hm, cut_take, ← List.map_take] at hln
    have nmlen : (NM.take m).length = m := by rw [List.length_take]; show min m 8 = m; omega
    have nd : (NM.take m).Nodup := NM_nd.sublist (List.take_sublist _ _)
    have nmat : ∀ j, j < m → (NM.take m)[j]? = NM[j]? := fun j hj => List.getElem?_take_of_lt hj
    have sub : ∀ x ∈ NM.take m, x ∈ NM := fun x hx => List.mem_of_mem_take hx
    have am : ("a" : Str) ∈ NM.take m := List.mem_of_getElem? ((nmat 0 (by omega)).trans rfl)
    refine ⟨(by show 1 ≤ sizeLine; decide), fun ll H3 e3 h3 hll => ?_⟩
    have hll : LsAt H3 ll [[kdS .house, "a"]] := by
      unfold LsAt
      rw [hll, house_line]
      rfl
    have hln3 := e3 _ _ hln
    have lnlen : ((NM.take m).map V.str).length = m := by rw [List.length_map, nmlen]
    have nmV : ∀ j, j < m → ∃ x, NM[j]? = some x ∧ (NM.take m)[j]? = some x ∧ x ∈ NM ∧ atI ((NM.take m).map V.str) (j : Int) = some (.str x) := fun j hj => by
      have h8 : j < NM.length := by show j < 8; omega
      refine ⟨NM[j], List.getElem?_eq_getElem h8, (nmat j hj).trans (List.getElem?_eq_getElem h8), List.getElem_mem _, atI_nat ?_⟩
      rw [List.getElem?_map, nmat j hj, List.getElem?_eq_getElem h8]
      rfl
    refine ⟨_, rfl, ln, _, rfl, .inl (SqL.of hln3), 1, _, rfl, ⟨by decide, by decide, by rw [lnlen]; omega, by rw [lnlen]; omega⟩, ?_⟩
    rw [lnlen]
    refine for_range (lo := 1) (n := ((m : Int) - 1).toNat) (fun i σ H' => ∃ o4 ls S, σ = [some (.ref a), some (.int c0), some (.ref ln), some (.ref ll), o4, none, none, none, none, none, none, none] ∧ Same H2 H' ∧ LsAt H' ll ls ∧ (∀ ws ∈ ls, LnG ws) ∧ runL S0 0 ls = .inr S ∧ PP (i + 1) S ∧ ls.length = i + 1 ∧ ∃ r, ls = [kdS .house, "a"] :: r)
      ⟨none, _, _, rfl, e3, hll, fun ws hw => by rw [List.mem_singleton.mp hw]; exact post_ln (sub _ am), run_snoc (ls := []) rfl PP.one.1, PP.one.2, rfl, [], rfl⟩ ?_ ?_
    · rintro i σ H4 hi ⟨o4, ls, S, rfl, e4, hls, hlg, hrun, hpp, hlen, r0, hr0⟩
      have hi : i + 1 < m := by omega
      obtain ⟨x, nx1, nx2, nx3, nx4⟩ := nmV (i + 1) hi
      refine ⟨_, rfl, .inl ⟨rfl, _, SqL.of hls⟩, (by show 2 ≤ sizeLine; decide), fun l2 H5 e5 h5 hl2 => ?_⟩
      obtain ⟨v, hv, hat⟩ := atI_of (xs := [V.str "listener ", V.str "post "]) (i := mixF c0 (1 + (i : Int)) % 2) (Int.emod_nonneg _ (by decide)) (Int.emod_lt_of_pos _ (by decide))
      obtain ⟨kd, hkd, rfl⟩ : ∃ kd, hrB kd = true ∧ v = .str (kdS kd ++ BL) := by
        have := List.mem_of_getElem? hv
        simp only [List.mem_cons, List.not_mem_nil, or_false] at this
        rcases this with h | h
        · exact ⟨.listener, rfl, by rw [h, kd_bl.1]⟩
        · exact ⟨.post, rfl, by rw [h, kd_bl.2]⟩
      have hls5 := e5 _ _ hls
      refine ⟨_, rfl, _, rfl, c0, _, rfl, _, _, rfl, rfl, (by show (0 : Int) < 2; decide), l2, _, _, _, rfl, rfl, SqL.of hl2, hat, _, rfl, _, rfl, ln, _, _, .str x, rfl, rfl, SqL.of (e5 _ _ (e4 _ _ hln)), (by rw [show (1 : Int) + (i : Int) = ((i + 1 : Nat) : Int) by omega]; exact nx4), _, _, rfl, rfl, ?_, ll, _, _, rfl, rfl, hls5, ?_, ?_⟩
      · obtain ⟨_, w2⟩ := NM_w x nx3
        rw [Str.length_append]
        have := kdS_len kd
        have : BL.length = 1 := rfl
        have : sizeLine = 2 ^ 24 := rfl
        omega
      · rw [List.length_map, List.length_map, hlen]
        show i + 1 < 2 ^ 24
        omega
      · obtain ⟨p1, p2⟩ := hpp.step (by omega) nx1 hkd
        have ll0 : H2 ll = none := h3
        refine ⟨_, ls ++ [[kdS kd, x]], _, rfl, same_new (e4.trans e5) ll0, ?_, fun ws hw => ?_, run_snoc hrun p1, p2, ?_, r0 ++ [[kdS kd, x]], ?_⟩
        · unfold LsAt
          rw [upd_same, List.map_append, List.map_append, line2]
          rfl
        · rcases List.mem_append.mp hw with hw | hw
          · exact hlg ws hw
          · rw [List.mem_singleton.mp hw]; exact post_ln nx3
        · rw [List.length_append, List.length_singleton, hlen]
        · rw [hr0]; rfl
    rintro σ H4 ⟨o4, ls, S, rfl, e4, hls, hlg, hrun, hpp, hlen, r0, hr0⟩
    have hm1 : ((m : Int) - 1).toNat + 1 = m := by omega
    rw [hm1] at hpp hlen
    obtain ⟨xb, bx1, bx2, _, _⟩ := nmV 1 (by omega)
    obtain ⟨xc, cx1, cx2, _, _⟩ := nmV 2 (by omega)
    have eb : xb = "b" := Option.some.inj (bx1.symm.trans rfl)
    have ec : xc = "c" := Option.some.inj (cx1.symm.trans rfl)
    subst eb ec
    have ha0 : (NM.take m)[0]? = some ("a" : Str) := (nmat 0 (by omega)).trans rfl
    have ll0 : H2 ll = none := h3
    refine ⟨_, rfl, .inl ⟨rfl, _, SqL.of hls⟩, ll, _, _, rfl, rfl, hls, by rw [List.length_map, List.length_map, hlen]; show m < 2 ^ 24; omega, ?_⟩
    have tp1 := hpp.tp
    have bup : Up (NM.take m) "b" "c" := ⟨1, 2, by decide, bx2, cx2⟩
    have bl : lineR S ["tie", "b", "c"] = some (S.tie "b" "c" 1) := line_tie (tp1.due nd ha0 (by decide) (u := 1) (v := 2) (by decide) bx2 cx2 (by decide) (by decide))
    have hr5 := run_snoc hrun bl
    have tp5 := tp1.tie (d := 1) bup
    have bc5 : ∃ t ∈ (S.tie "b" "c" 1).ties, t.2.1 = "b" ∧ t.2.2.1 = "c" := ⟨_, List.mem_append_right _ (List.mem_singleton.mpr rfl), rfl, rfl⟩
    have LG5 : LG (NM.take m) (ls ++ [(["tie", "b", "c"] : List Str)]) 1 (S.tie "b" "c" 1) := by
      refine ⟨fun ws hw => ?_, hr5, tp5, bc5, fun j j1 j2 => ?_, ⟨r0 ++ [(["tie", "b", "c"] : List Str)], by rw [hr0]; rfl⟩, by rw [List.length_append, List.length_singleton, hlen, nmlen]⟩
      · rcases List.mem_append.mp hw with hw | hw
        · exact hlg ws hw
        · rw [List.mem_singleton.mp hw]; exact tie_ln (List.mem_of_getElem? bx1) (List.mem_of_getElem? cx1)
      · rw [nmlen] at j1
        rw [List.take_of_length_le (by rw [List.length_append, List.length_singleton, hlen]; omega)]
        exact ⟨_, hr5, tp5.facts am bc5⟩
    have e5 : Same H2 (upd H4 ll (.lst (((ls.map lineS).map V.str) ++ [V.str "tie b c"]))) := same_new e4 ll0
    have hls5 : LsAt (upd H4 ll (.lst (((ls.map lineS).map V.str) ++ [V.str "tie b c"]))) ll (ls ++ [(["tie", "b", "c"] : List Str)]) := by
      unfold LsAt
      rw [upd_same, bc_line, List.map_append, List.map_append]
      rfl
    generalize upd H4 ll (.lst (((ls.map lineS).map V.str) ++ [V.str "tie b c"])) = H5 at e5 hls5 ⊢
    generalize ls ++ [(["tie", "b", "c"] : List Str)] = ls5 at LG5 hls5
    generalize S.tie "b" "c" 1 = S5 at LG5
    have e02 : Same H H2 := e1.trans e2
    refine ⟨_, rfl, _, rfl, _, rfl, a, _, rfl, sqm ha (e02.trans e5), fun L H6 e6 h6 hL => ?_⟩
    have nLl : L ≠ ll := (ne_of_none hls5 h6).symm
    refine ⟨L, rfl, ⟨_, SqL.of hL⟩, ?_⟩
    refine for_list (K := K) (xs := cutV (cs.map V.int) (some 2) (some 32)) (fun i σ H' => ∃ o4 o5 o6 o7 o8 ls S, σ = [some (.ref a), some (.int c0), some (.ref ln), some (.ref ll), o4, o5, o6, o7, o8, none, none, none] ∧ Same H2 H' ∧ H' L = some (.lst (cutV (cs.map V.int) (some 2) (some 32))) ∧ LsAt H' ll ls ∧ LG (NM.take m) ls (i + 1) S)
      ⟨_, _, _, _, _, ls5, S5, rfl, e5.trans e6, hL, e6 _ _ hls5, LG5⟩ (fun i σ H' _ h => by obtain ⟨_, _, _, _, _, _, _, _, _, h, _⟩ := h; exact SqL.of h) ?_ ?_
    · rintro i v σ H7 ex ⟨o4, o5, o6, o7, o8, ls, S, rfl, e7, hL7, hls, G⟩
      have hi30 : i < 30 := Nat.lt_of_lt_of_le (List.getElem?_eq_some_iff.mp ex).1 (cut_few _)
      obtain ⟨z, _, rfl⟩ := List.mem_map.mp (cut_mem (List.mem_of_getElem? ex))
      have hln7 := e7 _ _ hln
      have mm : (0 : Int) < ((((NM.take m).map V.str).length : Nat) : Int) - 1 := by rw [lnlen]; omega
      refine ⟨_, rfl, z, 1, rfl, _, rfl, ln, _, rfl, .inl (SqL.of hln7), _, _, rfl, rfl, _, _, rfl, rfl, mm, ?_⟩
      obtain ⟨u, hu, hu1⟩ : ∃ u : Nat, mixF z 1 % (((((NM.take m).map V.str).length : Nat) : Int) - 1) = (u : Int) ∧ u + 1 < m := by
        have b1 := Int.emod_nonneg (mixF z 1) (Int.ne_of_gt mm)
        have b2 := Int.emod_lt_of_pos (mixF z 1) mm
        refine ⟨_, (Int.toNat_of_nonneg b1).symm, ?_⟩
        rw [lnlen] at b1 b2 ⊢
        omega
      change gName 6 (V.int (mixF z 1 % (((((NM.take m).map V.str).length : Nat) : Int) - 1))) _ _ _
      rw [hu]
      have mm2 : (0 : Int) < ((((NM.take m).map V.str).length : Nat) : Int) - 1 - (u : Int) := by rw [lnlen]; omega
      refine ⟨_, rfl, _, _, rfl, rfl, _, rfl, z, 2, rfl, _, rfl, ln, _, rfl, .inl (SqL.of hln7), _, _, rfl, rfl, _, rfl, _, _, rfl, rfl, _, _, rfl, rfl, mm2, _, _, rfl, rfl, ?_⟩
      obtain ⟨v, hv, huv, hv1⟩ : ∃ v : Nat, (u : Int) + 1 + mixF z 2 % (((((NM.take m).map V.str).length : Nat) : Int) - 1 - (u : Int)) = (v : Int) ∧ u < v ∧ v < m := by
        have b1 := Int.emod_nonneg (mixF z 2) (Int.ne_of_gt mm2)
        have b2 := Int.emod_lt_of_pos (mixF z 2) mm2
        refine ⟨((u : Int) + 1 + mixF z 2 % (((((NM.take m).map V.str).length : Nat) : Int) - 1 - (u : Int))).toNat, (Int.toNat_of_nonneg (by omega)).symm, ?_, ?_⟩
        · omega
        · rw [lnlen] at b1 b2 ⊢
          omega
      change gName 7 (V.int ((u : Int) + 1 + mixF z 2 % (((((NM.take m).map V.str).length : Nat) : Int) - 1 - (u : Int)))) _ _ _
      rw [hv]
      obtain ⟨x, nx1, nx2, nx3, nx4⟩ := nmV u (by omega)
      obtain ⟨y, ny1, ny2, ny3, ny4⟩ := nmV v hv1
      refine ⟨_, rfl, _, rfl, ln, _, _, .str x, rfl, rfl, SqL.of hln7, nx4, _, rfl, _, rfl, ln, _, _, .str y, rfl, rfl, SqL.of hln7, ny4, (by show 3 ≤ sizeLine; decide), fun l1 H8 e8 h8 hl1 => ?_⟩
      have b3 := Int.emod_nonneg (mixF z 3) (show (99 : Int) ≠ 0 by decide)
      have b4 := Int.emod_lt_of_pos (mixF z 3) (show (0 : Int) < 99 by decide)
      refine ⟨_, rfl, z, 3, rfl, _, _, rfl, rfl, (by show (0 : Int) < 99; decide), _, _, rfl, rfl, 1 + mixF z 3 % 99, rfl, ?_, (by show 1 ≤ sizeLine; decide), fun l2 H9 e9 h9 hl2 => ?_⟩
      · have := Nat.log2_le_self (1 + mixF z 3 % 99).natAbs
        show (1 + mixF z 3 % 99).natAbs.log2 < 1920
        omega
      generalize hd : 1 + mixF z 3 % 99 = d at hl2
      have hl2 : H9 l2 = some (.lst [V.str (numS d)]) := hl2
      have d0 : 1 ≤ d := by omega
      have d1 : d ≤ 99 := by omega
      have b5 := Int.emod_nonneg (mixF z 4) (show (2 : Int) ≠ 0 by decide)
      have b6 := Int.emod_lt_of_pos (mixF z 4) (show (0 : Int) < 2 by decide)
      refine ⟨_, rfl, z, 4, rfl, _, _, rfl, rfl, (by show (0 : Int) < 2; decide), l2, mixF z 4 % 2, _, rfl, rfl, hl2, (by omega), (by omega), ?_, fun p3 h10 => ?_⟩
      · show 1 * (mixF z 4 % 2).toNat ≤ 2 ^ 24
        omega
      have due0 : ∀ d', 1 ≤ d' → d' ≤ 99 → dueT S x y d' = none := fun d' a b => G.tp.due nd ha0 (by omega) huv nx2 ny2 a b
      obtain ⟨ws, hws, hwl, d', hlr, hwb⟩ : ∃ ws : List Str, [V.str "tie", V.str x, V.str y] ++ (List.replicate (mixF z 4 % 2).toNat [V.str (numS d)]).flatten = ws.map V.str ∧ LnG ws ∧ ∃ d', lineR S ws = some (S.tie x y d') ∧ ws.length ≤ 10 := by
        rcases (show mixF z 4 % 2 = 0 ∨ mixF z 4 % 2 = 1 by omega) with h | h
        · rw [h]
          exact ⟨["tie", x, y], rfl, tie_ln nx3 ny3, 1, line_tie (due0 1 (by decide) (by decide)), by show 3 ≤ 10; decide⟩
        · rw [h]
          exact ⟨["tie", x, y, numS d], rfl, tie_ln4 nx3 ny3 (by omega) d1, d, line_tie4 d0 d1 (due0 d d0 d1), by show 4 ≤ 10; decide⟩
      have hl1' : upd H9 p3 (.lst (List.replicate (mixF z 4 % 2).toNat [V.str (numS d)]).flatten) l1 = some (.lst [V.str "tie", V.str x, V.str y]) := by
        rw [upd_ne (ne_of_none (e9 _ _ hl1) h10)]
        exact e9 _ _ hl1
      have e10 : Same H7 (upd H9 p3 (.lst (List.replicate (mixF z 4 % 2).toNat [V.str (numS d)]).flatten)) := same_upd (e8.trans e9) h10
      refine ⟨l1, p3, _, _, rfl, rfl, hl1', upd_same, ?_, fun p5 H11 e11 h11 hp5 => ?_⟩
      · have := congrArg List.length hws
        rw [List.length_append, List.length_map] at this
        have hs : sizeLine = 2 ^ 24 := rfl
        omega
      rw [hws] at hp5
      have e711 := e10.trans e11
      have hls11 := e711 _ _ hls
      refine ⟨_, rfl, .inl ⟨rfl, _, SqL.of hls11⟩, rfl, _, rfl, BL, p5, ws, rfl, rfl, SqL.of hp5, by decide, by omega, fun z' hz' => ?_, ll, _, _, rfl, rfl, hls11, ?_, ?_⟩
      · exact hwl.w.wl z' hz'
      · rw [List.length_map, List.length_map, G.len, nmlen]
        show m + (i + 1) < 2 ^ 24
        omega
      · refine ⟨_, _, _, _, _, ls ++ [ws], _, rfl, same_new (e7.trans e711) ll0, ?_, ?_, G.snoc am hwl hlr ⟨u, v, huv, nx2, ny2⟩⟩
        · rw [upd_ne nLl]
          exact e711 _ _ hL7
        · unfold LsAt
          rw [upd_same, List.map_append, List.map_append]
          rfl
    · rintro σ H7 ⟨o4, o5, o6, o7, o8, ls, S, rfl, e7, hL7, hls, G⟩
      have h31 : (cutV (cs.map V.int) (some 2) (some 32)).length + 1 ≤ 31 := Nat.succ_le_succ (cut_few _)
      generalize (cutV (cs.map V.int) (some 2) (some 32)).length + 1 = n at G h31
      have hnm8 : (NM.take m).length ≤ 8 := by rw [nmlen]; exact m8
      have G0 := G.len
      rw [nmlen] at G0
      obtain ⟨n1, hn1⟩ : ∃ n1, n = n1 + 1 := by
        obtain ⟨t, ht, _⟩ := G.bc
        have := G.tp.cnt
        have := List.length_pos_of_mem ht
        exact ⟨n - 1, by omega⟩
      have lslen : ((ls.map lineS).map V.str).length = ls.length := by rw [List.length_map, List.length_map]
      have hln7 := e7 _ _ hln
      have ha7 := sqm ha (e02.trans e7)
      refine ⟨rfl, _, rfl, NL, ll, ls.map lineS, rfl, rfl, SqL.of hls, by decide, (by rw [List.length_map]; omega), lines100 G.ln, ls, rfl, G.lsw hnm8 h31, fun tp H8 e8 htp => ?_⟩
      refine ⟨(by show 2 ≤ sizeLine; decide), fun t2 H9 e9 h9 ht2 => ⟨_, _, tup_isTs (e9 _ _ htp), tup_isTs (as := [some (.inr "read"), none]) ht2, _, rfl, ite_ne (by rw [G.run]; rfl) ?_⟩⟩
      have e79 := e8.trans e9
      have hln9 := e79 _ _ hln7
      have hls9 := e79 _ _ hls
      have ha9 := sqm ha7 e79
      refine ⟨_, rfl, ln, _, rfl, .inl (SqL.of hln9), _, _, rfl, rfl, _, rfl, a, 1, cs, rfl, by decide, ha9, fun c1 => ?_⟩
      have pos : (0 : Int) < ((((ls.map lineS).map V.str).length : Nat) : Int) - ((((NM.take m).map V.str).length : Nat) : Int) := by rw [lslen, lnlen]; omega
      refine ⟨_, rfl, ll, _, rfl, .inl (SqL.of hls9), _, rfl, ln, _, rfl, .inl (SqL.of hln9), _, _, rfl, rfl, _, _, rfl, rfl, pos, _, _, rfl, rfl, ?_⟩
      obtain ⟨j, hj, j1, j2⟩ : ∃ j : Nat, ((((NM.take m).map V.str).length : Nat) : Int) + 1 + c1 % (((((ls.map lineS).map V.str).length : Nat) : Int) - ((((NM.take m).map V.str).length : Nat) : Int)) = (j : Int) ∧ m + 1 ≤ j ∧ j ≤ ls.length := by
        have b1 := Int.emod_nonneg c1 (Int.ne_of_gt pos)
        have b2 := Int.emod_lt_of_pos c1 pos
        refine ⟨_, (Int.toNat_of_nonneg (by omega)).symm, ?_, ?_⟩
        · rw [lslen, lnlen] at b1 b2 ⊢
          omega
        · rw [lslen, lnlen] at b1 b2 ⊢
          omega
      change gName 9 (V.int (((((NM.take m).map V.str).length : Nat) : Int) + 1 + c1 % (((((ls.map lineS).map V.str).length : Nat) : Int) - ((((NM.take m).map V.str).length : Nat) : Int)))) _ _ _
      rw [hj]
      refine ⟨_, rfl, _, rfl, _, rfl, ll, _, rfl, SqL.of hls9, fun p1 H10 e10 h10 hp1 => ?_⟩
      have ha10 := sqm ha9 e10
      refine ⟨_, rfl, a, 1, cs, rfl, by decide, ha10, fun c2 => ⟨_, _, rfl, rfl, ⟨by decide, by decide⟩, _, rfl, fun ws hws H11 e11 => ⟨(by show 1 ≤ sizeLine; decide), fun p2 H12 e12 h12 hp2 => ?_⟩⟩⟩
      have e1012 := e11.trans e12
      rw [cut_take] at hp1
      refine ⟨p1, p2, _, _, rfl, rfl, e1012 _ _ hp1, hp2, ?_, fun p3 H13 e13 h13 hp3 => ?_⟩
      · rw [List.length_take, lslen]
        show min j ls.length + 1 ≤ 2 ^ 24
        omega
      have e913 := e10.trans (e1012.trans e13)
      refine ⟨_, rfl, _, rfl, _, rfl, ll, _, rfl, SqL.of (e913 _ _ hls9), fun p4 H14 e14 h14 hp4 => ?_⟩
      rw [cut_drop] at hp4
      refine ⟨p3, p4, _, _, rfl, rfl, e14 _ _ hp3, hp4, ?_, fun p5 H15 e15 h15 hp5 => ?_⟩
      · rw [List.length_append, List.length_take, List.length_drop, lslen]
        show min j ls.length + 1 + (ls.length - j) ≤ 2 ^ 24
        omega
      obtain ⟨LW, r1, hr1⟩ := G.worse ⟨m, m3, m8, rfl⟩ hnm8 h31 (by rw [nmlen]; exact j1) j2 hws
      have hp5 : LsAt H15 p5 (ls.take j ++ [ws] ++ ls.drop j) := by
        unfold LsAt
        rw [hp5, List.map_append, List.map_append, List.map_append, List.map_append, List.map_take, List.map_take, List.map_drop, List.map_drop]
        rfl
      have wlen : (ls.take j ++ [ws] ++ ls.drop j).length = ls.length + 1 := by
        rw [List.length_append, List.length_append, List.length_take, List.length_drop, List.length_singleton]
        omega
      generalize ls.take j ++ [ws] ++ ls.drop j = lw at LW hr1 hp5 wlen
      have e715 := e79.trans (e913.trans (e14.trans e15))
      refine ⟨fun σ' H' => ∃ lw', σ' = [some (.ref a), some (.int c0), some (.ref ln), some (.ref ll), o4, o5, o6, o7, o8, some (.int j), some (.ref p5), none] ∧ LsAt H' p5 lw' ∧ LWat lw' j, ?_, ?_⟩
      · rintro σ' H16 ⟨lw', rfl, hlw, LW⟩
        refine ⟨rfl, _, rfl, NL, p5, lw'.map lineS, rfl, rfl, SqL.of hlw, by decide, (by rw [List.length_map]; exact Nat.le_trans LW.lsw.few (by decide)), lines100 LW.ln, lw', rfl, LW.lsw, fun tp H17 e17 htp => ?_⟩
        refine ⟨_, rfl, (by show 2 ≤ sizeLine; decide), fun t2 H18 e18 h18 ht2 => ⟨_, _, tup_isTs (e18 _ _ htp), tup_isTs (as := [some (.inr "line"), some (.inl (j : Int))]) ht2, _, rfl, ite_ne (by rw [LW.run]; rfl) ?_⟩⟩
        refine ⟨_, rfl, _, _, rfl, rfl, ⟨by decide, by decide⟩, _, _, rfl, rfl, (by show (0 : Int) < 3; decide), _, rfl, fun lc H19 e19 h19 hlc => ?_⟩
        generalize c0 / 18 % 3 = cw at hlc
        have C := crowd_ok cw
        generalize crowdL cw = lc' at C hlc
        have C1 := C.lo
        have C2 := C.hi
        have C3 : LsW lc' := by
          obtain ⟨w0, r, e, hn⟩ := C.fst
          exact LsW.of C.ln (by rw [e]; exact fun z => nomatch z) (by omega) ⟨w0, r, e, hn⟩
        have lclen : ((lc'.map lineS).map V.str).length = lc'.length := by rw [List.length_map, List.length_map]
        refine ⟨rfl, _, rfl, NL, lc, lc'.map lineS, rfl, rfl, SqL.of hlc, by decide, (by rw [List.length_map]; omega), lines100 C.ln, lc', rfl, C3, fun tp2 H20 e20 htp2 => ?_⟩
        have hlc20 := e20 _ _ hlc
        refine ⟨_, rfl, lc, _, rfl, .inl (SqL.of hlc20), _, _, rfl, rfl, (by show 2 ≤ sizeLine; decide), fun t3 H21 e21 h21 ht3 => ⟨_, _, tup_isTs (e21 _ _ htp2), tup_isTs (as := [some (.inr "line"), some (.inl (((((lc'.map lineS).map V.str).length : Nat) : Int) - 1))]) ht3, _, rfl, ite_ne ?_ ?_⟩⟩
        · rw [C.bad, lclen]
          show [some (Sum.inr ("line" : Str)), some (Sum.inl ((lc'.length - 1 : Nat) : Int))] = _
          rw [show ((lc'.length - 1 : Nat) : Int) = (lc'.length : Int) - 1 by omega]
        have hlc21 := e21 _ _ hlc20
        obtain ⟨Sg, hSg⟩ := C.good
        have dl : ∀ ws ∈ lc'.dropLast, LnG ws := fun ws hw => C.ln ws (List.dropLast_subset _ hw)
        have dll : lc'.dropLast.length = lc'.length - 1 := List.length_dropLast
        have D3 : LsW lc'.dropLast := by
          obtain ⟨w0, r, e, hn⟩ := C.fst
          cases r with
          | nil => rw [e] at C1; exact absurd C1 (by show ¬ 10 ≤ 1; decide)
          | cons w1 r => exact LsW.of dl (by rw [e]; exact fun z => nomatch z) (by omega) ⟨w0, (w1 :: r).dropLast, by rw [e]; rfl, hn⟩
        refine ⟨rfl, _, rfl, _, rfl, _, rfl, lc, _, rfl, SqL.of hlc21, fun p6 H22 e22 h22 hp6 => ?_⟩
        rw [cut_last, ← List.map_dropLast, ← List.map_dropLast] at hp6
        refine ⟨NL, p6, lc'.dropLast.map lineS, rfl, rfl, SqL.of hp6, by decide, (by rw [List.length_map]; omega), lines100 dl, lc'.dropLast, rfl, D3, fun tp4 H23 e23 htp4 => ?_⟩
        refine ⟨(by show 2 ≤ sizeLine; decide), fun t4 H24 e24 h24 ht4 => ⟨_, _, tup_isTs (e24 _ _ htp4), tup_isTs (as := [some (.inr "read"), none]) ht4, _, rfl, ite_ne (by rw [hSg]; rfl) ?_⟩⟩
        refine ⟨[([""] : List Str), ([""] : List Str)], congrArg (fun z => [V.str z]) fault_nl, nl_lsw, fun tp5 H25 e25 htp5 => ?_⟩
        refine ⟨(by show 2 ≤ sizeLine; decide), fun t5 H26 e26 h26 ht5 => ⟨_, _, tup_isTs (e26 _ _ htp5), tup_isTs (as := [some (.inr "line"), some (.inl 0)]) ht5, _, rfl, ite_eq (by rw [nl_run]; rfl) ?_⟩⟩
        refine .inr ⟨rfl, fun nn dp dt H27 e27 _ _ _ N => ⟨nn, dp, dt, S0, rfl, N, S0_small, fun H28 e28 => ⟨rfl, ?_⟩⟩⟩
        rw [S0_text]
        exact q _
      · refine ⟨_, rfl, _, _, rfl, rfl, ⟨by decide, by decide⟩, _, _, rfl, rfl, (by show (0 : Int) < 3; decide), rfl, _, rfl, ite2 (fun _ => ?_) (fun _ => ?_)⟩
        · refine ⟨_, rfl, .inl ⟨rfl, _, SqL.of hp5⟩, p5, _, _, rfl, rfl, hp5, ?_, lw ++ [(["bad", "line"] : List Str)], rfl, ?_, LW.snoc (by omega) ⟨_, r1, hr1, house_ne⟩ bad_line.1⟩
          · rw [List.length_map, List.length_map, wlen]
            show ls.length + 1 < 2 ^ 24
            omega
          · unfold LsAt
            rw [upd_same, List.map_append, List.map_append, bad_line.2]
            rfl
        · exact ⟨lw, rfl, hp5, LW⟩
end
theorem all_bad {X : Xc} {Y : Xt} {nl : Addr} {P : Addr → Prop} (h1 : P X.noName) (h2 : P X.taken) (h3 : P X.oneHouse) (h4 : P X.tooMany) (h5 : P Y.noPost) (h6 : P Y.intoHouse) (h7 : P Y.ringMade) (h8 : P Y.noNumber) (h9 : P nl) (hY : P Y.tooMany := by assumption) : ∀ D, Bad X Y nl D → P D := by
  rintro D ((rfl | rfl | rfl | rfl) | (rfl | rfl | rfl | rfl | rfl) | rfl) <;> assumption
end K25
set_option maxRecDepth 100000
namespace K25
open PySem L2
section
variable {P : Program} {w : World} {K : PySem.W.Frag} {mg : Str → Option Value} {base h : Heap}
def In0 (K : PySem.W.Frag) (C : Addr) (qual : Str) (st : Stmt) : Prop := ∃ f fd, Mk K C f ∧ Fun K "__init__" qual st f fd
theorem in0_mk {C : Addr} {qual : Str} {st : Stmt} {f : Addr} {oc : Value} {od an : Option Addr} {osl : Array (Option Value)} {kV doc pm cdv ct : Value} (mk : PySem.W.makesIn K C = true) (a : PySem.W.findIn K (.ref C) "__init__" = some (some (.ref f))) (i : PySem.W.isFn K (.ref f) = true) (kc : PySem.W.keepIn K (.ref C) = true)
    (l : K.lookup f = some ⟨oc, od, .func (PySem.W.fnOf "__init__" qual (defArgs st) (defBody st) (defScope st) .none kV doc pm an cdv ct), osl⟩)
    (c : PySem.W.codeIn K cdv qual = true) (k : PySem.W.keepIn K (.ref f) = true) : In0 K C qual st := ⟨f, _, ⟨mk, a, i, kc⟩, fun_mk l c k⟩
def MeD0 (K : PySem.W.Frag) (C : Addr) (m qual : Str) (st : Stmt) : Prop := ∃ (f T : Addr) (t : Tok) (kV doc pm : Value) (an : Option Addr) (cdv ct : Value) (oc : Value) (od : Option Addr) (osl : Array (Option Value)) (tc : Value) (td : Option Addr) (n : Nat) (tsl : Array (Option Value)), Meth K C m f ∧
  K.lookup f = some ⟨oc, od, .func (PySem.W.fnOf m qual (defArgs st) (defBody st) (defScope st) (.ref T) kV doc pm an cdv ct), osl⟩ ∧ PySem.W.codeIn K cdv qual = true ∧ PySem.W.keepIn K (.ref f) = true ∧ K.lookup T = some ⟨tc, td, .seq #[.int 1 t] n, tsl⟩
theorem meD0_mk {C : Addr} {m qual : Str} {st : Stmt} {f T : Addr} {t : Tok} {oc tc : Value} {od an td : Option Addr} {osl tsl : Array (Option Value)} {n : Nat} {kV doc pm cdv ct : Value} (a : PySem.W.findIn K (.ref C) m = some (some (.ref f))) (i : PySem.W.isFn K (.ref f) = true)
    (l : K.lookup f = some ⟨oc, od, .func (PySem.W.fnOf m qual (defArgs st) (defBody st) (defScope st) (.ref T) kV doc pm an cdv ct), osl⟩)
    (c : PySem.W.codeIn K cdv qual = true) (k : PySem.W.keepIn K (.ref f) = true) (d : K.lookup T = some ⟨tc, td, .seq #[.int 1 t] n, tsl⟩) : MeD0 K C m qual st := ⟨f, T, t, kV, doc, pm, an, cdv, ct, oc, od, osl, tc, td, n, tsl, ⟨a, i, k⟩, l, c, k, d⟩
theorem meD0_dmX {C : Addr} {x qual : Str} {st : Stmt} {ps : List Str} {sp : Sp} {k : Nat} (F : MeD0 K C x qual st) (cl : Cls K C)
    (hb : ∀ (T : Addr) (t : Tok) (kV doc pm : Value) (an : Option Addr) (cdv ct : Value) (us : List Value), us.length = ps.length → ∃ kk, bindArgs (PySem.W.fnOf x qual (defArgs st) (defBody st) (defScope st) (.ref T) kV doc pm an cdv ct) ⟨us, []⟩ = seqItems? (.ref T) >>= kk ∧ kk (some #[.int 1 t]) = pure (ps.zip us))
    (ok : ∀ f fd, FunD K x qual st f fd → FnOk P w K mg base (CXE P w) k f fd ps sp) : DmX P w K mg base k C x ps sp := by
  obtain ⟨f, T, t, kV, doc, pm, an, cdv, ct, oc, od, osl, tc, td, n, tsl, m, l, c, kp, d⟩ := F
  refine ⟨f, _, cl, m, fun s us hin hl => ?_, ok f _ ⟨⟨oc, od, .ref T, kV, doc, pm, an, cdv, ct, osl, rfl, l, c⟩, kp⟩⟩
  rw [List.append_nil] at hl ⊢
  obtain ⟨kk, h1, h2⟩ := hb T t kV doc pm an cdv ct us hl
  exact BindsTo.of_defaults rfl (hin _ _ d) rfl h1 h2
def Xi0 (K : PySem.W.Frag) (C : Addr) (qual : Str) (st : Stmt) : Prop := ∃ f fd, ExcMk K C f ∧ Fun K "__init__" qual st f fd
theorem xi0_mk {C : Addr} {qual : Str} {st : Stmt} {f : Addr} {oc : Value} {od an : Option Addr} {osl : Array (Option Value)} {kV doc pm cdv ct : Value} (a : PySem.W.findIn K (.ref C) "__init__" = some (some (.ref f))) (own : ownIn K C f = true) (i : PySem.W.isFn K (.ref f) = true) (kc : PySem.W.keepIn K (.ref C) = true)
    (l : K.lookup f = some ⟨oc, od, .func (PySem.W.fnOf "__init__" qual (defArgs st) (defBody st) (defScope st) .none kV doc pm an cdv ct), osl⟩)
    (c : PySem.W.codeIn K cdv qual = true) (k : PySem.W.keepIn K (.ref f) = true) : Xi0 K C qual st := ⟨f, _, ⟨own, i, kc⟩, fun_mk l c k⟩
theorem xi0_di {C : Addr} {x qual : Str} {st : Stmt} {ps : List Str} {sp : Sp} {k : Nat} (F : Xi0 K C qual st) (X : K.In h) (G : h.Ns mainGlobals mg) (aC : PySem.W.nsIn K mainGlobals x = some (some (.ref C)))
    (hb : ∀ (kV doc pm : Value) (an : Option Addr) (cdv ct : Value) (us : List Value), us.length = ps.length → bindArgs (PySem.W.fnOf "__init__" qual (defArgs st) (defBody st) (defScope st) .none kV doc pm an cdv ct) ⟨us, []⟩ = pure (ps.zip us))
    (ok : ∀ f fd, Fun K "__init__" qual st f fd → FnOk P w K mg base CX0 k f fd ps sp) : DiX P w K mg base k x C ps sp := by
  obtain ⟨f, fd, m, F⟩ := F
  exact ⟨f, fd, PySem.W.mg_of X G aC, m, F.binds hb, ok f fd F⟩
theorem fn0_df {x qual : Str} {st : Stmt} {ps : List Str} {sp : Sp} {k : Nat} (F : Fn0 K x qual st) (X : K.In h) (G : h.Ns mainGlobals mg)
    (hb : ∀ (kV doc pm : Value) (an : Option Addr) (cdv ct : Value) (us : List Value), us.length = ps.length → bindArgs (PySem.W.fnOf x qual (defArgs st) (defBody st) (defScope st) .none kV doc pm an cdv ct) ⟨us, []⟩ = pure (ps.zip us))
    (ok : ∀ f fd, Fun K x qual st f fd → FnOk P w K mg base CX0 k f fd ps sp) : Df P w K mg base k x ps sp := by
  obtain ⟨f, fd, a, F⟩ := F
  exact ⟨f, fd, PySem.W.mg_of X G a, F.kp, F.binds hb, ok f fd F⟩
theorem me0_dm {C : Addr} {x qual : Str} {st : Stmt} {ps : List Str} {sp : Sp} {k : Nat} (F : Me0 K C x qual st) (cl : Cls K C)
    (hb : ∀ (kV doc pm : Value) (an : Option Addr) (cdv ct : Value) (us : List Value), us.length = ps.length → bindArgs (PySem.W.fnOf x qual (defArgs st) (defBody st) (defScope st) .none kV doc pm an cdv ct) ⟨us, []⟩ = pure (ps.zip us))
    (ok : ∀ f fd, Fun K x qual st f fd → FnOk P w K mg base CX0 k f fd ps sp) : Dm P w K mg base k C x ps sp := by
  obtain ⟨f, fd, m, F⟩ := F
  exact ⟨f, fd, cl, m, F.binds hb, ok f fd F⟩
theorem in0_dk {C : Addr} {x qual : Str} {st : Stmt} {ps : List Str} {sp : Sp} {k : Nat} (F : In0 K C qual st) (X : K.In h) (G : h.Ns mainGlobals mg) (aC : PySem.W.nsIn K mainGlobals x = some (some (.ref C)))
    (hb : ∀ (kV doc pm : Value) (an : Option Addr) (cdv ct : Value) (us : List Value), us.length = ps.length → bindArgs (PySem.W.fnOf "__init__" qual (defArgs st) (defBody st) (defScope st) .none kV doc pm an cdv ct) ⟨us, []⟩ = pure (ps.zip us))
    (ok : ∀ f fd, Fun K "__init__" qual st f fd → FnOk P w K mg base CX0 k f fd ps sp) : Dk P w K mg base k x C ps sp := by
  obtain ⟨f, fd, m, F⟩ := F
  exact ⟨f, fd, PySem.W.mg_of X G aC, m, F.binds hb, ok f fd F⟩
theorem fn0_dfX {x qual : Str} {st : Stmt} {ps : List Str} {sp : Sp} {k : Nat} (F : Fn0 K x qual st) (X : K.In h) (G : h.Ns mainGlobals mg)
    (hb : ∀ (kV doc pm : Value) (an : Option Addr) (cdv ct : Value) (us : List Value), us.length = ps.length → bindArgs (PySem.W.fnOf x qual (defArgs st) (defBody st) (defScope st) .none kV doc pm an cdv ct) ⟨us, []⟩ = pure (ps.zip us))
    (ok : ∀ f fd, Fun K x qual st f fd → FnOk P w K mg base (CXE P w) k f fd ps sp) : DfX P w K mg base k x ps sp := by
  obtain ⟨f, fd, a, F⟩ := F
  exact ⟨f, fd, PySem.W.mg_of X G a, F.kp, F.binds hb, ok f fd F⟩
theorem me0_dmX {C : Addr} {x qual : Str} {st : Stmt} {ps : List Str} {sp : Sp} {k : Nat} (F : Me0 K C x qual st) (cl : Cls K C)
    (hb : ∀ (kV doc pm : Value) (an : Option Addr) (cdv ct : Value) (us : List Value), us.length = ps.length → bindArgs (PySem.W.fnOf x qual (defArgs st) (defBody st) (defScope st) .none kV doc pm an cdv ct) ⟨us, []⟩ = pure (ps.zip us))
    (ok : ∀ f fd, Fun K x qual st f fd → FnOk P w K mg base (CXE P w) k f fd ps sp) : DmX P w K mg base k C x ps sp := by
  obtain ⟨f, fd, m, F⟩ := F
  exact ⟨f, fd, cl, m, F.binds hb, ok f fd F⟩
theorem fn0_dfC {x qual : Str} {st : Stmt} {ps : List Str} {sp : Sp} {k : Nat} (F : Fn0 K x qual st) (X : K.In h) (G : h.Ns mainGlobals mg)
    (hb : ∀ (kV doc pm : Value) (an : Option Addr) (cdv ct : Value) (us : List Value), us.length = ps.length → bindArgs (PySem.W.fnOf x qual (defArgs st) (defBody st) (defScope st) .none kV doc pm an cdv ct) ⟨us, []⟩ = pure (ps.zip us))
    (ok : ∀ f fd, Fun K x qual st f fd → FnOk P w K mg base (CXC P w) k f fd ps sp) : DfC P w K mg base k x ps sp := by
  obtain ⟨f, fd, a, F⟩ := F
  exact ⟨f, fd, PySem.W.mg_of X G a, F.kp, F.binds hb, ok f fd F⟩
theorem xi0_dh {C : Addr} {x qual : Str} {st : Stmt} {ps : List Str} {sp : Addr → Sp} {k : Nat} (F : Xi0 K C qual st) (X : K.In h) (G : h.Ns mainGlobals mg) (aC : PySem.W.nsIn K mainGlobals x = some (some (.ref C)))
    (hb : ∀ (kV doc pm : Value) (an : Option Addr) (cdv ct : Value) (us : List Value), us.length = ps.length → bindArgs (PySem.W.fnOf "__init__" qual (defArgs st) (defBody st) (defScope st) .none kV doc pm an cdv ct) ⟨us, []⟩ = pure (ps.zip us))
    (ok : ∀ f fd, Fun K "__init__" qual st f fd → FnOkH P w K mg base CX0 k f fd ps sp) : DiH P w K mg base k x C ps sp := by
  obtain ⟨f, fd, m, F⟩ := F
  exact ⟨f, fd, PySem.W.mg_of X G aC, m, F.binds hb, ok f fd F⟩
end
@[elab_as_elim] theorem len1 {α : Type} {P : List α → Prop} : ∀ (us : List α), us.length = 1 → (∀ a, P [a]) → P us
  | [_], _, f => f _
@[elab_as_elim] theorem len2 {α : Type} {P : List α → Prop} : ∀ (us : List α), us.length = 2 → (∀ a b, P [a, b]) → P us
  | [_, _], _, f => f _ _
@[elab_as_elim] theorem len3 {α : Type} {P : List α → Prop} : ∀ (us : List α), us.length = 3 → (∀ a b c, P [a, b, c]) → P us
  | [_, _, _], _, f => f _ _ _
@[elab_as_elim] theorem len4 {α : Type} {P : List α → Prop} : ∀ (us : List α), us.length = 4 → (∀ a b c d, P [a, b, c, d]) → P us
  | [_, _, _, _], _, f => f _ _ _ _
@[elab_as_elim] theorem len5 {α : Type} {P : List α → Prop} : ∀ (us : List α), us.length = 5 → (∀ a b c d e, P [a, b, c, d, e]) → P us
  | [_, _, _, _, _], _, f => f _ _ _ _ _
@[elab_as_elim] theorem len6 {α : Type} {P : List α → Prop} : ∀ (us : List α), us.length = 6 → (∀ a b c d e f, P [a, b, c, d, e, f]) → P us
  | [_, _, _, _, _, _], _, f => f _ _ _ _ _ _
theorem all_mk {l : PySem.W.OpenLaw} {w : World} {K : PySem.W.Frag} {h : Heap} {mg : Str → Option Value} {fa CN CP CH CL : Addr} {xNN xTk xOH xTM xIH xRM xNo xNP xNS xNL xPE : Addr} {t_FIGURES t_DELAY_FIGURES t_LEFT_OUT_DELAY t_LETTERS t_LONGEST_NAME t_MOST_POSTS t_MOST_LISTENERS t_MOST_TIES t_LONGEST_DELAY : Tok} (X : K.In h) (G : h.Ns mainGlobals mg) (hfa : mg "law" = some (.ref fa))
    (aCN : PySem.W.nsIn K mainGlobals "Net" = some (some (.ref CN)))
    (aCP : PySem.W.nsIn K mainGlobals "Post" = some (some (.ref CP)))
    (aCH : PySem.W.nsIn K mainGlobals "House" = some (some (.ref CH)))
    (aCL : PySem.W.nsIn K mainGlobals "Listener" = some (some (.ref CL)))
    (pgCN : PySem.W.plainGet K CN Str.empty = true)
    (hdCN : PySem.W.hasDictIn K CN = true)
    (poCN : PySem.W.plainOver K CN = true)
    (saCN : PySem.W.findIn K (.ref CN) "__setattr__" = some (some (.builtin "object.__setattr__")))
    (pgCP : PySem.W.plainGet K CP Str.empty = true)
    (hdCP : PySem.W.hasDictIn K CP = true)
    (poCP : PySem.W.plainOver K CP = true)
    (saCP : PySem.W.findIn K (.ref CP) "__setattr__" = some (some (.builtin "object.__setattr__")))
    (pgCH : PySem.W.plainGet K CH Str.empty = true)
    (hdCH : PySem.W.hasDictIn K CH = true)
    (poCH : PySem.W.plainOver K CH = true)
    (saCH : PySem.W.findIn K (.ref CH) "__setattr__" = some (some (.builtin "object.__setattr__")))
    (pgCL : PySem.W.plainGet K CL Str.empty = true)
    (hdCL : PySem.W.hasDictIn K CL = true)
    (poCL : PySem.W.plainOver K CL = true)
    (saCL : PySem.W.findIn K (.ref CL) "__setattr__" = some (some (.builtin "object.__setattr__")))
    (nCN_kept_posts : PySem.W.findIn K (.ref CN) "kept_posts" = some none)
    (nCN_kept_ties : PySem.W.findIn K (.ref CN) "kept_ties" = some none)
    (nCN_next_number : PySem.W.findIn K (.ref CN) "next_number" = some none)
    (nCP_name : PySem.W.findIn K (.ref CP) "name" = some none)
    (nCH_name : PySem.W.findIn K (.ref CH) "name" = some none)
    (nCL_name : PySem.W.findIn K (.ref CL) "name" = some none)
    (e_NoName : PySem.W.nsIn K mainGlobals "NoName" = some (some (.ref xNN)))
    (xc_NoName : PySem.W.excIn K xNN mroVE "ValueError.__new__" = true)
    (e_Taken : PySem.W.nsIn K mainGlobals "Taken" = some (some (.ref xTk)))
    (xc_Taken : PySem.W.excIn K xTk mroVE "ValueError.__new__" = true)
    (e_OneHouse : PySem.W.nsIn K mainGlobals "OneHouse" = some (some (.ref xOH)))
    (xc_OneHouse : PySem.W.excIn K xOH mroVE "ValueError.__new__" = true)
    (e_TooMany : PySem.W.nsIn K mainGlobals "TooMany" = some (some (.ref xTM)))
    (xc_TooMany : PySem.W.excIn K xTM mroVE "ValueError.__new__" = true)
    (e_IntoHouse : PySem.W.nsIn K mainGlobals "IntoHouse" = some (some (.ref xIH)))
    (xc_IntoHouse : PySem.W.excIn K xIH mroVE "ValueError.__new__" = true)
    (e_RingMade : PySem.W.nsIn K mainGlobals "RingMade" = some (some (.ref xRM)))
    (xc_RingMade : PySem.W.excIn K xRM mroVE "ValueError.__new__" = true)
    (e_NoNumber : PySem.W.nsIn K mainGlobals "NoNumber" = some (some (.ref xNo)))
    (xc_NoNumber : PySem.W.excIn K xNo mroVE "ValueError.__new__" = true)
    (e_NoPost : PySem.W.nsIn K mainGlobals "NoPost" = some (some (.ref xNP)))
    (e_NoSuch : PySem.W.nsIn K mainGlobals "NoSuch" = some (some (.ref xNS)))
    (e_NoLine : PySem.W.nsIn K mainGlobals "NoLine" = some (some (.ref xNL)))
    (e_PostError : PySem.W.nsIn K mainGlobals "PostError" = some (some (.ref xPE)))
    (g_FIGURES : PySem.W.nsIn K mainGlobals "FIGURES" = some (some (.str "0123456789" t_FIGURES)))
    (g_DELAY_FIGURES : PySem.W.nsIn K mainGlobals "DELAY_FIGURES" = some (some (.int 2 t_DELAY_FIGURES)))
    (g_LEFT_OUT_DELAY : PySem.W.nsIn K mainGlobals "LEFT_OUT_DELAY" = some (some (.int 1 t_LEFT_OUT_DELAY)))
    (g_LETTERS : PySem.W.nsIn K mainGlobals "LETTERS" = some (some (.str "abcdefghijklmnopqrstuvwxyz" t_LETTERS)))
    (g_LONGEST_NAME : PySem.W.nsIn K mainGlobals "LONGEST_NAME" = some (some (.int 8 t_LONGEST_NAME)))
    (g_MOST_POSTS : PySem.W.nsIn K mainGlobals "MOST_POSTS" = some (some (.int 20 t_MOST_POSTS)))
    (g_MOST_LISTENERS : PySem.W.nsIn K mainGlobals "MOST_LISTENERS" = some (some (.int 8 t_MOST_LISTENERS)))
    (g_MOST_TIES : PySem.W.nsIn K mainGlobals "MOST_TIES" = some (some (.int 40 t_MOST_TIES)))
    (g_LONGEST_DELAY : PySem.W.nsIn K mainGlobals "LONGEST_DELAY" = some (some (.int 99 t_LONGEST_DELAY)))
    (k_str_str : PySem.W.kitOne K (.type "str") (.type "str") = some true)
    (k_int_int : PySem.W.kitOne K (.type "int") (.type "int") = some true)
    (k_int_bool : PySem.W.kitOne K (.type "int") (.type "bool") = some false)
    (ne_ph : CP ≠ CH)
    (ne_pl : CP ≠ CL)
    (ne_hl : CH ≠ CL)
    (gg : PySem.W.specialIn K (.builtin "object.__class__") "__get__" = some (some (.builtin "getset_descriptor.__get__")))
    (tc : PySem.W.takesIn K (.builtin "object.__class__") = some true)
    (xNN_mb : PySem.W.mroIn K xNN (.type "BaseException") = some true)
    (xNN_em : PySem.W.exmOne K (.ref xNN) (.ref xPE) = some true)
    (xTk_mb : PySem.W.mroIn K xTk (.type "BaseException") = some true)
    (xTk_em : PySem.W.exmOne K (.ref xTk) (.ref xPE) = some true)
    (xOH_mb : PySem.W.mroIn K xOH (.type "BaseException") = some true)
    (xOH_em : PySem.W.exmOne K (.ref xOH) (.ref xPE) = some true)
    (xTM_mb : PySem.W.mroIn K xTM (.type "BaseException") = some true)
    (xTM_em : PySem.W.exmOne K (.ref xTM) (.ref xPE) = some true)
    (xNP_mb : PySem.W.mroIn K xNP (.type "BaseException") = some true)
    (xNP_em : PySem.W.exmOne K (.ref xNP) (.ref xPE) = some true)
    (xIH_mb : PySem.W.mroIn K xIH (.type "BaseException") = some true)
    (xIH_em : PySem.W.exmOne K (.ref xIH) (.ref xPE) = some true)
    (xRM_mb : PySem.W.mroIn K xRM (.type "BaseException") = some true)
    (xRM_em : PySem.W.exmOne K (.ref xRM) (.ref xPE) = some true)
    (xNo_mb : PySem.W.mroIn K xNo (.type "BaseException") = some true)
    (xNo_em : PySem.W.exmOne K (.ref xNo) (.ref xPE) = some true)
    (xNL_mb : PySem.W.mroIn K xNL (.type "BaseException") = some true)
    (xNL_em : PySem.W.exmOne K (.ref xNL) (.ref xPE) = some true)
    (xNL_ga : PySem.W.findIn K (.ref xNL) "__getattribute__" = some (some (.builtin "BaseException.__getattribute__")))
    (xNL_gt : PySem.W.findIn K (.ref xNL) "__getattr__" = some none)
    (xNL_ec : PySem.W.findIn K (.ref xNL) "__class__" = some (some (.builtin "object.__class__")))
    (xNL_mo : PySem.W.mroIn K xNL (.type "object") = some true)
    (xNL_hd : PySem.W.hasDictIn K xNL = true)
    (xNP_hd : PySem.W.hasDictIn K xNP = true)
    (xNL_k0 : PySem.W.kitOne K (.ref xNL) (.ref xIH) = some false)
    (xNL_k1 : PySem.W.kitOne K (.ref xNL) (.ref xNN) = some false)
    (xNL_k2 : PySem.W.kitOne K (.ref xNL) (.ref xNP) = some false)
    (xNL_k3 : PySem.W.kitOne K (.ref xNL) (.ref xNS) = some false)
    (xNL_k4 : PySem.W.kitOne K (.ref xNL) (.ref xRM) = some false)
    (xNL_k5 : PySem.W.kitOne K (.ref xNL) (.ref xTM) = some false)
    (xNL_k6 : PySem.W.kitOne K (.ref xNL) (.ref xNL) = some true)
    (xNL_kv : PySem.W.kitOne K (.ref xNL) (.type "ValueError") = some true)
    (xNP_sa : PySem.W.findIn K (.ref xNP) "__setattr__" = some (some (.builtin "object.__setattr__")))
    (xNP_ov : excOver K xNP = true)
    (xNP_tk : PySem.W.takerIn K xNP "name" = some none)
    (xNP_na : PySem.W.findIn K (.ref xNP) "name" = some none)
    (xNL_sa : PySem.W.findIn K (.ref xNL) "__setattr__" = some (some (.builtin "object.__setattr__")))
    (xNL_ov : excOver K xNL = true)
    (xNL_tk : PySem.W.takerIn K xNL "number" = some none)
    (xNL_na : PySem.W.findIn K (.ref xNL) "number" = some none)
    (z_len : PySem.W.nsIn K mainGlobals "len" = some none)
    (z_isinstance : PySem.W.nsIn K mainGlobals "isinstance" = some none)
    (z_str : PySem.W.nsIn K mainGlobals "str" = some none)
    (z_all : PySem.W.nsIn K mainGlobals "all" = some none)
    (z_list : PySem.W.nsIn K mainGlobals "list" = some none)
    (z_int : PySem.W.nsIn K mainGlobals "int" = some none)
    (z_bool : PySem.W.nsIn K mainGlobals "bool" = some none)
    (z_enumerate : PySem.W.nsIn K mainGlobals "enumerate" = some none)
    (z_range : PySem.W.nsIn K mainGlobals "range" = some none)
    (z_ValueError : PySem.W.nsIn K mainGlobals "ValueError" = some none)
    (f0 : Fn0 K "is_name" "is_name" s_is_name)
    (f1 : Me0 K CP "reads" "Post.reads" s_Post_reads)
    (f2 : Me0 K CH "reads" "Post.reads" s_Post_reads)
    (f3 : Me0 K CL "reads" "Listener.reads" s_Listener_reads)
    (f4 : Me0 K CP "hears" "Post.hears" s_Post_hears)
    (f5 : Me0 K CH "hears" "House.hears" s_House_hears)
    (f6 : Me0 K CL "hears" "Post.hears" s_Post_hears)
    (f7 : Me0 K CP "kind" "Post.kind" s_Post_kind)
    (f8 : Me0 K CH "kind" "House.kind" s_House_kind)
    (f9 : Me0 K CL "kind" "Listener.kind" s_Listener_kind)
    (f10 : In0 K CP "Post.__init__" s_Post___init__)
    (f11 : In0 K CH "Post.__init__" s_Post___init__)
    (f12 : In0 K CL "Post.__init__" s_Post___init__)
    (f13 : In0 K CN "Net.__init__" s_Net___init__)
    (f14 : Me0 K CP "twin" "Post.twin" s_Post_twin)
    (f15 : Me0 K CH "twin" "House.twin" s_House_twin)
    (f16 : Me0 K CL "twin" "Listener.twin" s_Listener_twin)
    (f17 : Me0 K CN "check_new_name" "Net.check_new_name" s_Net_check_new_name)
    (f18 : Me0 K CN "listeners" "Net.listeners" s_Net_listeners)
    (f19 : Me0 K CN "home" "Net.home" s_Net_home)
    (f20 : Me0 K CN "put_in" "Net.put_in" s_Net_put_in)
    (f21 : Me0 K CN "post" "Net.post" s_Net_post)
    (f22 : Me0 K CN "listener" "Net.listener" s_Net_listener)
    (f23 : Me0 K CN "house" "Net.house" s_Net_house)
    (f24 : Fn0 K "is_whole" "is_whole" s_is_whole)
    (f25 : Fn0 K "is_delay" "is_delay" s_is_delay)
    (f26 : Me0 K CN "ties" "Net.ties" s_Net_ties)
    (f27 : Fn0 K "led_to" "led_to" s_led_to)
    (f28 : Xi0 K xNP "NoPost.__init__" s_NoPost___init__)
    (f29 : Xi0 K xNL "NoLine.__init__" s_NoLine___init__)
    (f30 : Me0 K CN "check_there" "Net.check_there" s_Net_check_there)
    (f31 : Me0 K CN "check_ends" "Net.check_ends" s_Net_check_ends)
    (f32 : MeD0 K CN "tie" "Net.tie" s_Net_tie)
    (f33 : Me0 K CN "posts" "Net.posts" s_Net_posts)
    (f34 : Fn0 K "post_line" "post_line" s_post_line)
    (f35 : Fn0 K "tie_line" "tie_line" s_tie_line)
    (f36 : Fn0 K "net_text" "net_text" s_net_text)
    (f37 : Fn0 K "is_written_number" "is_written_number" s_is_written_number)
    (f38 : Fn0 K "put_post" "put_post" s_put_post)
    (f39 : Fn0 K "put_tie" "put_tie" s_put_tie)
    (f40 : Fn0 K "put_line" "put_line" s_put_line)
    (f41 : Fn0 K "read_net" "read_net" s_read_net)
    (f42 : Fn0 K "_law_cell_at" "_law_cell_at" s_Lcell_at)
    (f43 : Fn0 K "_law_mixed" "_law_mixed" s_Lmixed)
    (f44 : Fn0 K "_law_bad" "_law_bad" s_Lbad)
    (f45 : Fn0 K "_law_fault" "_law_fault" s_Lfault)
    (f46 : Fn0 K "_law_crowd" "_law_crowd" s_Lcrowd)
    (fl : Fn0 K "law" "law" s_law) :
    ∃ fd : FuncData, (∀ (s : Shared) (v : Value), BindsTo s fd ⟨[v], []⟩ [("_law_script", v)]) ∧ ∀ base : Heap, K.In base → base.Ns mainGlobals mg → FnOk l.prog w K mg base CX0 10 fa fd ["_law_script"] (sp_law K) := by
  obtain ⟨fL, fdL, aL, FL⟩ := fl
  have e := hfa.symm.trans (PySem.W.mg_of X G aL)
  cases e
  have clCN : Cls K CN := ⟨pgCN, hdCN, poCN, saCN⟩
  have clCP : Cls K CP := ⟨pgCP, hdCP, poCP, saCP⟩
  have clCH : Cls K CH := ⟨pgCH, hdCH, poCH, saCH⟩
  have clCL : Cls K CL := ⟨pgCL, hdCL, poCL, saCL⟩
  have O : Cl.Ok K ⟨CN, CP, CH, CL⟩ := ⟨clCN, clCP, clCH, clCL, nCN_kept_posts, nCN_kept_ties, nCN_next_number, nCP_name, nCH_name, nCL_name, ne_ph, ne_pl, ne_hl⟩
  have TL : TxtL mg := ⟨PySem.W.mg_none_of X G z_len, PySem.W.mg_none_of X G z_isinstance, PySem.W.mg_none_of X G z_str, PySem.W.mg_none_of X G z_all, PySem.W.mg_none_of X G z_list⟩
  have TG : TxtG mg := ⟨⟨_, PySem.W.mg_of X G g_LETTERS⟩, ⟨_, PySem.W.mg_of X G g_LONGEST_NAME⟩, ⟨_, PySem.W.mg_of X G g_MOST_POSTS⟩, ⟨_, PySem.W.mg_of X G g_MOST_LISTENERS⟩⟩
  have TK : TxtK K := ⟨k_str_str⟩
  have TX : TxtX K mg ⟨xNN, xTk, xOH, xTM⟩ := ⟨PySem.W.mg_of X G e_NoName, xc_NoName, PySem.W.mg_of X G e_Taken, xc_Taken, PySem.W.mg_of X G e_OneHouse, xc_OneHouse, PySem.W.mg_of X G e_TooMany, xc_TooMany⟩
  have TN : TxtN mg := ⟨PySem.W.mg_none_of X G z_isinstance, PySem.W.mg_none_of X G z_int, PySem.W.mg_none_of X G z_bool, PySem.W.mg_none_of X G z_len⟩
  have TH : TxtH mg := ⟨⟨_, PySem.W.mg_of X G g_MOST_TIES⟩, ⟨_, PySem.W.mg_of X G g_LONGEST_DELAY⟩⟩
  have TI : TxtI K := ⟨k_int_int, k_int_bool⟩
  have TY : TxtY K mg ⟨xNP, xIH, xRM, xNo, xTM, xNS⟩ := ⟨PySem.W.mg_of X G e_IntoHouse, xc_IntoHouse, PySem.W.mg_of X G e_RingMade, xc_RingMade, PySem.W.mg_of X G e_NoNumber, xc_NoNumber, PySem.W.mg_of X G e_TooMany, xc_TooMany⟩
  have TW : TxtW mg := ⟨PySem.W.mg_none_of X G z_str, ⟨_, PySem.W.mg_of X G g_LEFT_OUT_DELAY⟩⟩
  have TR : TxtR mg := ⟨PySem.W.mg_none_of X G z_len, PySem.W.mg_none_of X G z_all, PySem.W.mg_none_of X G z_int, PySem.W.mg_none_of X G z_enumerate, ⟨_, PySem.W.mg_of X G g_FIGURES⟩, ⟨_, PySem.W.mg_of X G g_DELAY_FIGURES⟩, ⟨_, PySem.W.mg_of X G g_LEFT_OUT_DELAY⟩⟩
  have TE : TxtE K mg ⟨xNN, xTk, xOH, xTM⟩ ⟨xNP, xIH, xRM, xNo, xTM, xNS⟩ xNL xPE := ⟨PySem.W.mg_none_of X G z_enumerate, PySem.W.mg_of X G e_PostError, all_bad xNN_em xTk_em xOH_em xTM_em xNP_em xIH_em xRM_em xNo_em xNL_em xTM_em, all_bad xNN_mb xTk_mb xOH_mb xTM_mb xNP_mb xIH_mb xRM_mb xNo_mb xNL_mb xTM_mb⟩
  have TF : TxtF K mg ⟨xNN, xTk, xOH, xTM⟩ ⟨xNP, xIH, xRM, xNo, xTM, xNS⟩ xNL xPE := ⟨PySem.W.mg_none_of X G z_isinstance, PySem.W.mg_none_of X G z_ValueError, PySem.W.mg_of X G e_PostError, PySem.W.mg_of X G e_NoLine, PySem.W.mg_of X G e_IntoHouse, PySem.W.mg_of X G e_NoName, PySem.W.mg_of X G e_NoPost, PySem.W.mg_of X G e_NoSuch, PySem.W.mg_of X G e_RingMade, PySem.W.mg_of X G e_TooMany, xNL_em, xNL_k6, xNL_kv, (by simp only [PySem.W.kitAny, xNL_k0, xNL_k1, xNL_k2, xNL_k3, xNL_k4, xNL_k5]), ⟨⟨xNL_ga, xNL_gt, xNL_ec, gg, tc, xNL_mo, xNL_mb, xNL_hd⟩, xNL_na⟩⟩
  have TA : TxtA mg := ⟨PySem.W.mg_none_of X G z_len, PySem.W.mg_none_of X G z_range, PySem.W.mg_none_of X G z_str⟩
  have EFp : ExcF K xNP "name" := ⟨xNP_sa, xNP_ov, xNP_tk, xNP_hd⟩
  have EFl : ExcF K xNL "number" := ⟨xNL_sa, xNL_ov, xNL_tk, xNL_hd⟩
  refine ⟨fdL, fun s v => ?_, fun base _ _ => ?_⟩
  · obtain ⟨oc, od, kV, doc, pm, an, cdv, ct, osl, rfl, lk, hcd⟩ := FL.ex
    exact .of_eq rfl
  ·
    have D_is_name : Df l.prog w K mg base 1 "is_name" ["name"] sp_is_name := fn0_df f0 X G (fun _ _ _ _ _ _ us hl => len1 us hl (fun _ => rfl)) (fun f fd F => ok_is_name F TL TG TK)
    have R_Post : Dm l.prog w K mg base 1 CP "reads" ["self"] (sp_readsC ⟨CN, CP, CH, CL⟩ CP) := me0_dm f1 clCP (fun _ _ _ _ _ _ us hl => len1 us hl (fun _ => rfl)) (fun f fd F => (ok_Post_reads F).imp (fun vs H Q E h => by unfold sp_readsC at h; rw [show decide ((CP : Addr) = (⟨CN, CP, CH, CL⟩ : Cl).lstn) = false from reads_of O .post] at h; exact h))
    have R_House : Dm l.prog w K mg base 1 CH "reads" ["self"] (sp_readsC ⟨CN, CP, CH, CL⟩ CH) := me0_dm f2 clCH (fun _ _ _ _ _ _ us hl => len1 us hl (fun _ => rfl)) (fun f fd F => (ok_Post_reads F).imp (fun vs H Q E h => by unfold sp_readsC at h; rw [show decide ((CH : Addr) = (⟨CN, CP, CH, CL⟩ : Cl).lstn) = false from reads_of O .house] at h; exact h))
    have R_Listener : Dm l.prog w K mg base 1 CL "reads" ["self"] (sp_readsC ⟨CN, CP, CH, CL⟩ CL) := me0_dm f3 clCL (fun _ _ _ _ _ _ us hl => len1 us hl (fun _ => rfl)) (fun f fd F => (ok_Listener_reads F).imp (fun vs H Q E h => by unfold sp_readsC at h; rw [show decide ((CL : Addr) = (⟨CN, CP, CH, CL⟩ : Cl).lstn) = true from reads_of O .listener] at h; exact h))
    have H_Post : Dm l.prog w K mg base 1 CP "hears" ["self"] (sp_hearsC ⟨CN, CP, CH, CL⟩ CP) := me0_dm f4 clCP (fun _ _ _ _ _ _ us hl => len1 us hl (fun _ => rfl)) (fun f fd F => (ok_Post_hears F).imp (fun vs H Q E h => by unfold sp_hearsC at h; rw [show (!decide ((CP : Addr) = (⟨CN, CP, CH, CL⟩ : Cl).house)) = true from hears_of O .post] at h; exact h))
    have H_House : Dm l.prog w K mg base 1 CH "hears" ["self"] (sp_hearsC ⟨CN, CP, CH, CL⟩ CH) := me0_dm f5 clCH (fun _ _ _ _ _ _ us hl => len1 us hl (fun _ => rfl)) (fun f fd F => (ok_House_hears F).imp (fun vs H Q E h => by unfold sp_hearsC at h; rw [show (!decide ((CH : Addr) = (⟨CN, CP, CH, CL⟩ : Cl).house)) = false from hears_of O .house] at h; exact h))
    have H_Listener : Dm l.prog w K mg base 1 CL "hears" ["self"] (sp_hearsC ⟨CN, CP, CH, CL⟩ CL) := me0_dm f6 clCL (fun _ _ _ _ _ _ us hl => len1 us hl (fun _ => rfl)) (fun f fd F => (ok_Post_hears F).imp (fun vs H Q E h => by unfold sp_hearsC at h; rw [show (!decide ((CL : Addr) = (⟨CN, CP, CH, CL⟩ : Cl).house)) = true from hears_of O .listener] at h; exact h))
    have K_Post : Dm l.prog w K mg base 1 CP "kind" ["self"] (sp_kindC ⟨CN, CP, CH, CL⟩ CP) := me0_dm f7 clCP (fun _ _ _ _ _ _ us hl => len1 us hl (fun _ => rfl)) (fun f fd F => (ok_Post_kind F).imp (fun vs H Q E h => by obtain ⟨v, k, rfl, ek, q⟩ := h; have ek : Kd.post = k := of_inj O ek; subst ek; exact ⟨v, rfl, q⟩))
    have K_House : Dm l.prog w K mg base 1 CH "kind" ["self"] (sp_kindC ⟨CN, CP, CH, CL⟩ CH) := me0_dm f8 clCH (fun _ _ _ _ _ _ us hl => len1 us hl (fun _ => rfl)) (fun f fd F => (ok_House_kind F).imp (fun vs H Q E h => by obtain ⟨v, k, rfl, ek, q⟩ := h; have ek : Kd.house = k := of_inj O ek; subst ek; exact ⟨v, rfl, q⟩))
    have K_Listener : Dm l.prog w K mg base 1 CL "kind" ["self"] (sp_kindC ⟨CN, CP, CH, CL⟩ CL) := me0_dm f9 clCL (fun _ _ _ _ _ _ us hl => len1 us hl (fun _ => rfl)) (fun f fd F => (ok_Listener_kind F).imp (fun vs H Q E h => by obtain ⟨v, k, rfl, ek, q⟩ := h; have ek : Kd.listener = k := of_inj O ek; subst ek; exact ⟨v, rfl, q⟩))
    have D_Post : Dk l.prog w K mg base 1 "Post" CP ["self", "name"] (sp_pinit ⟨CN, CP, CH, CL⟩) := in0_dk f10 X G aCP (fun _ _ _ _ _ _ us hl => len2 us hl (fun _ _ => rfl)) (fun f fd F => ok_Post_init F O)
    have D_House : Dk l.prog w K mg base 1 "House" CH ["self", "name"] (sp_pinit ⟨CN, CP, CH, CL⟩) := in0_dk f11 X G aCH (fun _ _ _ _ _ _ us hl => len2 us hl (fun _ _ => rfl)) (fun f fd F => ok_Post_init F O)
    have D_Listener : Dk l.prog w K mg base 1 "Listener" CL ["self", "name"] (sp_pinit ⟨CN, CP, CH, CL⟩) := in0_dk f12 X G aCL (fun _ _ _ _ _ _ us hl => len2 us hl (fun _ _ => rfl)) (fun f fd F => ok_Post_init F O)
    have D_Net : Dk l.prog w K mg base 1 "Net" CN ["self"] (sp_ninit ⟨CN, CP, CH, CL⟩) := in0_dk f13 X G aCN (fun _ _ _ _ _ _ us hl => len1 us hl (fun _ => rfl)) (fun f fd F => ok_Net_init F O)
    have W_Post : Dm l.prog w K mg base 3 CP "twin" ["self"] (sp_twinC ⟨CN, CP, CH, CL⟩ CP) := me0_dm f14 clCP (fun _ _ _ _ _ _ us hl => len1 us hl (fun _ => rfl)) (fun f fd F => ok_Post_twin (c := ⟨CN, CP, CH, CL⟩) F O D_Post)
    have W_House : Dm l.prog w K mg base 3 CH "twin" ["self"] (sp_twinC ⟨CN, CP, CH, CL⟩ CH) := me0_dm f15 clCH (fun _ _ _ _ _ _ us hl => len1 us hl (fun _ => rfl)) (fun f fd F => ok_House_twin (c := ⟨CN, CP, CH, CL⟩) F O D_House)
    have W_Listener : Dm l.prog w K mg base 3 CL "twin" ["self"] (sp_twinC ⟨CN, CP, CH, CL⟩ CL) := me0_dm f16 clCL (fun _ _ _ _ _ _ us hl => len1 us hl (fun _ => rfl)) (fun f fd F => ok_Listener_twin (c := ⟨CN, CP, CH, CL⟩) F O D_Listener)
    have D_reads : ∀ C, IsPost (⟨CN, CP, CH, CL⟩ : Cl) C → Dm l.prog w K mg base 1 C "reads" ["self"] (sp_readsC ⟨CN, CP, CH, CL⟩ C) := by
      rintro _ ⟨k, rfl⟩
      cases k with
      | house => exact R_House
      | listener => exact R_Listener
      | post => exact R_Post
    have D_hears : ∀ C, IsPost (⟨CN, CP, CH, CL⟩ : Cl) C → Dm l.prog w K mg base 1 C "hears" ["self"] (sp_hearsC ⟨CN, CP, CH, CL⟩ C) := by
      rintro _ ⟨k, rfl⟩
      cases k with
      | house => exact H_House
      | listener => exact H_Listener
      | post => exact H_Post
    have D_kind : ∀ C, IsPost (⟨CN, CP, CH, CL⟩ : Cl) C → Dm l.prog w K mg base 1 C "kind" ["self"] (sp_kindC ⟨CN, CP, CH, CL⟩ C) := by
      rintro _ ⟨k, rfl⟩
      cases k with
      | house => exact K_House
      | listener => exact K_Listener
      | post => exact K_Post
    have D_twin : ∀ C, IsPost (⟨CN, CP, CH, CL⟩ : Cl) C → Dm l.prog w K mg base 3 C "twin" ["self"] (sp_twinC ⟨CN, CP, CH, CL⟩ C) := by
      rintro _ ⟨k, rfl⟩
      cases k with
      | house => exact W_House
      | listener => exact W_Listener
      | post => exact W_Post
    have D_Net_check_new_name : DmX l.prog w K mg base 2 CN "check_new_name" ["self", "name"] (sp_cnn ⟨CN, CP, CH, CL⟩ ⟨xNN, xTk, xOH, xTM⟩) := me0_dmX f17 clCN (fun _ _ _ _ _ _ us hl => len2 us hl (fun _ _ => rfl)) (fun f fd F => ok_Net_check_new_name F O TX D_is_name)
    have D_Net_listeners : Dm l.prog w K mg base 2 CN "listeners" ["self"] (sp_listeners ⟨CN, CP, CH, CL⟩) := me0_dm f18 clCN (fun _ _ _ _ _ _ us hl => len1 us hl (fun _ => rfl)) (fun f fd F => ok_Net_listeners F O D_reads)
    have D_Net_home : Dm l.prog w K mg base 2 CN "home" ["self"] (sp_home ⟨CN, CP, CH, CL⟩) := me0_dm f19 clCN (fun _ _ _ _ _ _ us hl => len1 us hl (fun _ => rfl)) (fun f fd F => ok_Net_home F O D_hears)
    have D_Net_put_in : DmX l.prog w K mg base 3 CN "put_in" ["self", "post"] (sp_put_in ⟨CN, CP, CH, CL⟩ ⟨xNN, xTk, xOH, xTM⟩) := me0_dmX f20 clCN (fun _ _ _ _ _ _ us hl => len2 us hl (fun _ _ => rfl)) (fun f fd F => ok_Net_put_in F O TL TG TX D_reads D_Net_listeners)
    have D_Net_post : DmX l.prog w K mg base 4 CN "post" ["self", "name"] (sp_new ⟨CN, CP, CH, CL⟩ ⟨xNN, xTk, xOH, xTM⟩ .post) := me0_dmX f21 clCN (fun _ _ _ _ _ _ us hl => len2 us hl (fun _ _ => rfl)) (fun f fd F => ok_Net_post F O D_Net_check_new_name D_Net_put_in D_Post)
    have D_Net_listener : DmX l.prog w K mg base 4 CN "listener" ["self", "name"] (sp_new ⟨CN, CP, CH, CL⟩ ⟨xNN, xTk, xOH, xTM⟩ .listener) := me0_dmX f22 clCN (fun _ _ _ _ _ _ us hl => len2 us hl (fun _ _ => rfl)) (fun f fd F => ok_Net_listener F O D_Net_check_new_name D_Net_put_in D_Listener)
    have D_Net_house : DmX l.prog w K mg base 4 CN "house" ["self", "name"] (sp_new ⟨CN, CP, CH, CL⟩ ⟨xNN, xTk, xOH, xTM⟩ .house) := me0_dmX f23 clCN (fun _ _ _ _ _ _ us hl => len2 us hl (fun _ _ => rfl)) (fun f fd F => ok_Net_house F O TX D_Net_check_new_name D_Net_put_in D_Net_home D_House)
    have D_is_whole : Df l.prog w K mg base 1 "is_whole" ["number"] sp_is_whole := fn0_df f24 X G (fun _ _ _ _ _ _ us hl => len1 us hl (fun _ => rfl)) (fun f fd F => ok_is_whole F TN TI)
    have D_is_delay : Df l.prog w K mg base 2 "is_delay" ["number"] sp_is_delay := fn0_df f25 X G (fun _ _ _ _ _ _ us hl => len1 us hl (fun _ => rfl)) (fun f fd F => ok_is_delay F TH D_is_whole)
    have D_Net_ties : Dm l.prog w K mg base 1 CN "ties" ["self"] (sp_ties ⟨CN, CP, CH, CL⟩) := me0_dm f26 clCN (fun _ _ _ _ _ _ us hl => len1 us hl (fun _ => rfl)) (fun f fd F => ok_Net_ties F O)
    have D_led_to : Df l.prog w K mg base 1 "led_to" ["ties", "start"] sp_led_to := fn0_df f27 X G (fun _ _ _ _ _ _ us hl => len2 us hl (fun _ _ => rfl)) (fun f fd F => ok_led_to F TN)
    have D_NoPost : DiX l.prog w K mg base 1 "NoPost" xNP ["self", "name"] (sp_exinit xNP "name") := xi0_di f28 X G e_NoPost (fun _ _ _ _ _ _ us hl => len2 us hl (fun _ _ => rfl)) (fun f fd F => ok_NoPost_init F EFp)
    have D_NoLine : DiX l.prog w K mg base 1 "NoLine" xNL ["self", "number"] (sp_exinit xNL "number") := xi0_di f29 X G e_NoLine (fun _ _ _ _ _ _ us hl => len2 us hl (fun _ _ => rfl)) (fun f fd F => ok_NoLine_init F EFl)
    have DH_NoLine : DiH l.prog w K mg base 1 "NoLine" xNL ["self", "number"] (fun _ => (sp_exinit xNL "number")) := xi0_dh f29 X G e_NoLine (fun _ _ _ _ _ _ us hl => len2 us hl (fun _ _ => rfl)) (fun f fd F => ok_NoLine_initH F EFl)
    have D_Net_check_there : DmX l.prog w K mg base 3 CN "check_there" ["self", "name"] (sp_thereX ⟨CN, CP, CH, CL⟩ ⟨xNP, xIH, xRM, xNo, xTM, xNS⟩) := me0_dmX f30 clCN (fun _ _ _ _ _ _ us hl => len2 us hl (fun _ _ => rfl)) (fun f fd F => ok_Net_check_there F O D_NoPost)
    have D_Net_check_ends : DmX l.prog w K mg base 4 CN "check_ends" ["self", "one", "other"] (sp_ends ⟨CN, CP, CH, CL⟩ ⟨xNP, xIH, xRM, xNo, xTM, xNS⟩) := me0_dmX f31 clCN (fun _ _ _ _ _ _ us hl => len3 us hl (fun _ _ _ => rfl)) (fun f fd F => ok_Net_check_ends F O TY D_hears D_Net_check_there D_Net_ties D_led_to)
    have D_Net_tie : DmX l.prog w K mg base 5 CN "tie" ["self", "one", "other", "delay"] (sp_tie ⟨CN, CP, CH, CL⟩ ⟨xNP, xIH, xRM, xNo, xTM, xNS⟩) := meD0_dmX f32 clCN (fun _ _ _ _ _ _ _ _ us hl => len4 us hl (fun _ _ _ _ => ⟨_, rfl, rfl⟩)) (fun f fd F => ok_Net_tie F O TN TH TY D_Net_check_ends D_is_delay)
    have D_Net_posts : Dm l.prog w K mg base 4 CN "posts" ["self"] (sp_posts ⟨CN, CP, CH, CL⟩) := me0_dm f33 clCN (fun _ _ _ _ _ _ us hl => len1 us hl (fun _ => rfl)) (fun f fd F => ok_Net_posts F O D_twin)
    have D_post_line : Df l.prog w K mg base 2 "post_line" ["post"] (sp_post_line ⟨CN, CP, CH, CL⟩) := fn0_df f34 X G (fun _ _ _ _ _ _ us hl => len1 us hl (fun _ => rfl)) (fun f fd F => ok_post_line F O D_kind)
    have D_tie_line : Df l.prog w K mg base 1 "tie_line" ["one", "other", "delay"] sp_tie_line := fn0_df f35 X G (fun _ _ _ _ _ _ us hl => len3 us hl (fun _ _ _ => rfl)) (fun f fd F => ok_tie_line F TW)
    have D_net_text : Df l.prog w K mg base 5 "net_text" ["net"] (sp_net_text ⟨CN, CP, CH, CL⟩) := fn0_df f36 X G (fun _ _ _ _ _ _ us hl => len1 us hl (fun _ => rfl)) (fun f fd F => ok_net_text F O D_Net_posts D_Net_ties D_post_line D_tie_line)
    have D_is_written_number : Df l.prog w K mg base 1 "is_written_number" ["word", "most_figures"] sp_iwn := fn0_df f37 X G (fun _ _ _ _ _ _ us hl => len2 us hl (fun _ _ => rfl)) (fun f fd F => ok_is_written_number F TR)
    have D_put_post : DfX l.prog w K mg base 5 "put_post" ["net", "words"] (sp_put_post ⟨CN, CP, CH, CL⟩ ⟨xNN, xTk, xOH, xTM⟩ ⟨xNP, xIH, xRM, xNo, xTM, xNS⟩ xNL) := fn0_dfX f38 X G (fun _ _ _ _ _ _ us hl => len2 us hl (fun _ _ => rfl)) (fun f fd F => ok_put_post F TR D_NoLine D_Net_house D_Net_listener D_Net_post)
    have D_put_tie : DfX l.prog w K mg base 6 "put_tie" ["net", "words"] (sp_put_tie ⟨CN, CP, CH, CL⟩ ⟨xNN, xTk, xOH, xTM⟩ ⟨xNP, xIH, xRM, xNo, xTM, xNS⟩ xNL) := fn0_dfX f39 X G (fun _ _ _ _ _ _ us hl => len2 us hl (fun _ _ => rfl)) (fun f fd F => ok_put_tie F TR D_NoLine D_Net_tie D_is_written_number)
    have D_put_line : DfX l.prog w K mg base 7 "put_line" ["net", "line"] (sp_put_line ⟨CN, CP, CH, CL⟩ ⟨xNN, xTk, xOH, xTM⟩ ⟨xNP, xIH, xRM, xNo, xTM, xNS⟩ xNL) := fn0_dfX f40 X G (fun _ _ _ _ _ _ us hl => len2 us hl (fun _ _ => rfl)) (fun f fd F => ok_put_line F D_put_post D_put_tie)
    have D_read_net : DfC l.prog w K mg base 8 "read_net" ["text"] (sp_read_net ⟨CN, CP, CH, CL⟩ xNL) := fn0_dfC f41 X G (fun _ _ _ _ _ _ us hl => len1 us hl (fun _ => rfl)) (fun f fd F => ok_read_net F TE D_Net D_put_line DH_NoLine)
    have D_Lcell_at : Df l.prog w K mg base 1 "_law_cell_at" ["_law_script", "_law_k"] (sp_Lcell_at K) := fn0_df f42 X G (fun _ _ _ _ _ _ us hl => len2 us hl (fun _ _ => rfl)) (fun f fd F => ok_Lcell_at F TA)
    have D_Lmixed : Df l.prog w K mg base 1 "_law_mixed" ["_law_cell", "_law_k"] sp_Lmixed := fn0_df f43 X G (fun _ _ _ _ _ _ us hl => len2 us hl (fun _ _ => rfl)) (fun f fd F => ok_Lmixed F )
    have D_Lbad : Df l.prog w K mg base 1 "_law_bad" ["_law_cell"] sp_Lbad := fn0_df f44 X G (fun _ _ _ _ _ _ us hl => len1 us hl (fun _ => rfl)) (fun f fd F => ok_Lbad F )
    have D_Lfault : Df l.prog w K mg base 9 "_law_fault" ["_law_text"] sp_Lfault := fn0_df f45 X G (fun _ _ _ _ _ _ us hl => len1 us hl (fun _ => rfl)) (fun f fd F => ok_Lfault F TF D_read_net)
    have D_Lcrowd : Df l.prog w K mg base 1 "_law_crowd" ["_law_way"] sp_Lcrowd := fn0_df f46 X G (fun _ _ _ _ _ _ us hl => len1 us hl (fun _ => rfl)) (fun f fd F => ok_Lcrowd F TA)
    exact ok_law (c := ⟨CN, CP, CH, CL⟩) (nl := xNL) FL TA D_Lcell_at D_Lmixed D_Lbad D_Lfault D_Lcrowd D_read_net D_net_text
theorem walk {l : PySem.W.OpenLaw} {q : Program} {loose : List Str} {XP : (Str → Option Value) → Heap → Prop} {YP : World → Heap → Prop} {d : DefRec} {K : Params → PySem.W.Frag} (hn : l.most = some 63) (hdf : d.params.defaults = [])
    (hY : ∀ (w : World) (h : Heap), YP w h → (K w.params).In h)
    (F : ∀ (w : World) (mg : Str → Option Value) (fa : Addr) (h : Heap), (K w.params).In h → h.Ns mainGlobals mg → mg d.name = some (.ref fa) →
      ∃ fd : FuncData, (∀ (s : Shared) (u : Value), BindsTo s fd ⟨[u], []⟩ [("_law_script", u)]) ∧ ∀ base : Heap, (K w.params).In base → base.Ns mainGlobals mg → FnOk l.prog w (K w.params) mg base CX0 10 fa fd ["_law_script"] (sp_law (K w.params))) :
    PySem.W.WalkO q loose XP YP l.row.toRowW d [] (fun f vs => PySem.call f vs) :=
  L2.walk_of (n := 63) (k := 10) (x := "_law_script") (CX := fun _ => CX0) (sp := fun w => sp_law (K w.params)) hn (by decide) hdf ⟨rfl, by decide, by decide⟩ hY F (fun _ _ a ns hl _ hS => ⟨a, ns, rfl, hS, hl, fun _ => rfl⟩) fun _ _ _ _ _ z => z
end K25
open PySem PySem.W PyProof.Rows L2
set_option maxRecDepth 100000 in
set_option maxHeartbeats 0 in
theorem PySem.Challenge.cw_mixposts_k25_lines_that_say_nothing_holds : PySem.Challenge.rw_mixposts_k25_lines_that_say_nothing.Holds := by
  w_on; o_law; k_head; (case hw => w_witness2)
  k_fill
  refine K25.walk (l := PySem.Challenge.rw_mixposts_k25_lines_that_say_nothing) rfl rfl (fun w h Y => PySem.W.kIn_of Y) ?F
  case F =>
    intro w mg fa h KX G hmg
    refine' K25.all_mk KX G hmg ?aCN ?aCP ?aCH ?aCL ?pgCN ?hdCN ?poCN ?saCN ?pgCP ?hdCP ?poCP ?saCP ?pgCH ?hdCH ?poCH ?saCH ?pgCL ?hdCL ?poCL ?saCL ?nCN_kept_posts ?nCN_kept_ties ?nCN_next_number ?nCP_name ?nCH_name ?nCL_name ?e_NoName ?xc_NoName ?e_Taken ?xc_Taken ?e_OneHouse ?xc_OneHouse ?e_TooMany ?xc_TooMany ?e_IntoHouse ?xc_IntoHouse ?e_RingMade ?xc_RingMade ?e_NoNumber ?xc_NoNumber ?e_NoPost ?e_NoSuch ?e_NoLine ?e_PostError ?g_FIGURES ?g_DELAY_FIGURES ?g_LEFT_OUT_DELAY ?g_LETTERS ?g_LONGEST_NAME ?g_MOST_POSTS ?g_MOST_LISTENERS ?g_MOST_TIES ?g_LONGEST_DELAY ?k_str_str ?k_int_int ?k_int_bool ?ne_ph ?ne_pl ?ne_hl ?gg ?tc ?xNN_mb ?xNN_em ?xTk_mb ?xTk_em ?xOH_mb ?xOH_em ?xTM_mb ?xTM_em ?xNP_mb ?xNP_em ?xIH_mb ?xIH_em ?xRM_mb ?xRM_em ?xNo_mb ?xNo_em ?xNL_mb ?xNL_em ?xNL_ga ?xNL_gt ?xNL_ec ?xNL_mo ?xNL_hd ?xNP_hd ?xNL_k0 ?xNL_k1 ?xNL_k2 ?xNL_k3 ?xNL_k4 ?xNL_k5 ?xNL_k6 ?xNL_kv ?xNP_sa ?xNP_ov ?xNP_tk ?xNP_na ?xNL_sa ?xNL_ov ?xNL_tk ?xNL_na ?z_len ?z_isinstance ?z_str ?z_all ?z_list ?z_int ?z_bool ?z_enumerate ?z_range ?z_ValueError (fn0_mk ?A0 ?L0 ?C0 ?K0) (me0_mk ?A1 ?I1 ?L1 ?C1 ?K1) (me0_mk ?A2 ?I2 ?L2 ?C2 ?K2) (me0_mk ?A3 ?I3 ?L3 ?C3 ?K3) (me0_mk ?A4 ?I4 ?L4 ?C4 ?K4) (me0_mk ?A5 ?I5 ?L5 ?C5 ?K5) (me0_mk ?A6 ?I6 ?L6 ?C6 ?K6) (me0_mk ?A7 ?I7 ?L7 ?C7 ?K7) (me0_mk ?A8 ?I8 ?L8 ?C8 ?K8) (me0_mk ?A9 ?I9 ?L9 ?C9 ?K9) (K25.in0_mk ?M10 ?A10 ?I10 ?KC10 ?L10 ?C10 ?K10) (K25.in0_mk ?M11 ?A11 ?I11 ?KC11 ?L11 ?C11 ?K11) (K25.in0_mk ?M12 ?A12 ?I12 ?KC12 ?L12 ?C12 ?K12) (K25.in0_mk ?M13 ?A13 ?I13 ?KC13 ?L13 ?C13 ?K13) (me0_mk ?A14 ?I14 ?L14 ?C14 ?K14) (me0_mk ?A15 ?I15 ?L15 ?C15 ?K15) (me0_mk ?A16 ?I16 ?L16 ?C16 ?K16) (me0_mk ?A17 ?I17 ?L17 ?C17 ?K17) (me0_mk ?A18 ?I18 ?L18 ?C18 ?K18) (me0_mk ?A19 ?I19 ?L19 ?C19 ?K19) (me0_mk ?A20 ?I20 ?L20 ?C20 ?K20) (me0_mk ?A21 ?I21 ?L21 ?C21 ?K21) (me0_mk ?A22 ?I22 ?L22 ?C22 ?K22) (me0_mk ?A23 ?I23 ?L23 ?C23 ?K23) (fn0_mk ?A24 ?L24 ?C24 ?K24) (fn0_mk ?A25 ?L25 ?C25 ?K25) (me0_mk ?A26 ?I26 ?L26 ?C26 ?K26) (fn0_mk ?A27 ?L27 ?C27 ?K27) (K25.xi0_mk ?A28 ?O28 ?I28 ?KC28 ?L28 ?C28 ?K28) (K25.xi0_mk ?A29 ?O29 ?I29 ?KC29 ?L29 ?C29 ?K29) (me0_mk ?A30 ?I30 ?L30 ?C30 ?K30) (me0_mk ?A31 ?I31 ?L31 ?C31 ?K31) (K25.meD0_mk ?A32 ?I32 ?L32 ?C32 ?K32 ?D32) (me0_mk ?A33 ?I33 ?L33 ?C33 ?K33) (fn0_mk ?A34 ?L34 ?C34 ?K34) (fn0_mk ?A35 ?L35 ?C35 ?K35) (fn0_mk ?A36 ?L36 ?C36 ?K36) (fn0_mk ?A37 ?L37 ?C37 ?K37) (fn0_mk ?A38 ?L38 ?C38 ?K38) (fn0_mk ?A39 ?L39 ?C39 ?K39) (fn0_mk ?A40 ?L40 ?C40 ?K40) (fn0_mk ?A41 ?L41 ?C41 ?K41) (fn0_mk ?A42 ?L42 ?C42 ?K42) (fn0_mk ?A43 ?L43 ?C43 ?K43) (fn0_mk ?A44 ?L44 ?C44 ?K44) (fn0_mk ?A45 ?L45 ?C45 ?K45) (fn0_mk ?A46 ?L46 ?C46 ?K46) (fn0_mk ?al ?ll ?cl ?kl)
    (case aCN => first | k_is | kit_is)
    (case aCP => first | k_is | kit_is)
    (case aCH => first | k_is | kit_is)
    (case aCL => first | k_is | kit_is)
    (case pgCN => first | k_is | kit_is)
    (case hdCN => first | k_is | kit_is)
    (case poCN => first | k_is | kit_is)
    (case saCN => first | k_is | kit_is)
    (case pgCP => first | k_is | kit_is)
    (case hdCP => first | k_is | kit_is)
    (case poCP => first | k_is | kit_is)
    (case saCP => first | k_is | kit_is)
    (case pgCH => first | k_is | kit_is)
    (case hdCH => first | k_is | kit_is)
    (case poCH => first | k_is | kit_is)
    (case saCH => first | k_is | kit_is)
    (case pgCL => first | k_is | kit_is)
    (case hdCL => first | k_is | kit_is)
    (case poCL => first | k_is | kit_is)
    (case saCL => first | k_is | kit_is)
    (case nCN_kept_posts => first | k_is | kit_is)
    (case nCN_kept_ties => first | k_is | kit_is)
    (case nCN_next_number => first | k_is | kit_is)
    (case nCP_name => first | k_is | kit_is)
    (case nCH_name => first | k_is | kit_is)
    (case nCL_name => first | k_is | kit_is)
    (case e_NoName => first | k_is | kit_is)
    (case xc_NoName => k_exc)
    (case e_Taken => first | k_is | kit_is)
    (case xc_Taken => k_exc)
    (case e_OneHouse => first | k_is | kit_is)
    (case xc_OneHouse => k_exc)
    (case e_TooMany => first | k_is | kit_is)
    (case xc_TooMany => k_exc)
    (case e_IntoHouse => first | k_is | kit_is)
    (case xc_IntoHouse => k_exc)
    (case e_RingMade => first | k_is | kit_is)
    (case xc_RingMade => k_exc)
    (case e_NoNumber => first | k_is | kit_is)
    (case xc_NoNumber => k_exc)
    (case e_NoPost => first | k_is | kit_is)
    (case e_NoSuch => first | k_is | kit_is)
    (case e_NoLine => first | k_is | kit_is)
    (case e_PostError => first | k_is | kit_is)
    (case g_FIGURES => first | k_is | kit_is)
    (case g_DELAY_FIGURES => first | k_is | kit_is)
    (case g_LEFT_OUT_DELAY => first | k_is | kit_is)
    (case g_LETTERS => first | k_is | kit_is)
    (case g_LONGEST_NAME => first | k_is | kit_is)
    (case g_MOST_POSTS => first | k_is | kit_is)
    (case g_MOST_LISTENERS => first | k_is | kit_is)
    (case g_MOST_TIES => first | k_is | kit_is)
    (case g_LONGEST_DELAY => first | k_is | kit_is)
    (case k_str_str => first | k_is | kit_is)
    (case k_int_int => first | k_is | kit_is)
    (case k_int_bool => first | k_is | kit_is)
    (case ne_ph => first | decide | omega | (intro h; cases h))
    (case ne_pl => first | decide | omega | (intro h; cases h))
    (case ne_hl => first | decide | omega | (intro h; cases h))
    (case gg => first | k_is | kit_is)
    (case tc => first | k_is | kit_is)
    (case xNN_mb => first | k_is | kit_is)
    (case xNN_em => first | kts_exm | k_is | kit_is | kernel_rfl)
    (case xTk_mb => first | k_is | kit_is)
    (case xTk_em => first | kts_exm | k_is | kit_is | kernel_rfl)
    (case xOH_mb => first | k_is | kit_is)
    (case xOH_em => first | kts_exm | k_is | kit_is | kernel_rfl)
    (case xTM_mb => first | k_is | kit_is)
    (case xTM_em => first | kts_exm | k_is | kit_is | kernel_rfl)
    (case xNP_mb => first | k_is | kit_is)
    (case xNP_em => first | kts_exm | k_is | kit_is | kernel_rfl)
    (case xIH_mb => first | k_is | kit_is)
    (case xIH_em => first | kts_exm | k_is | kit_is | kernel_rfl)
    (case xRM_mb => first | k_is | kit_is)
    (case xRM_em => first | kts_exm | k_is | kit_is | kernel_rfl)
    (case xNo_mb => first | k_is | kit_is)
    (case xNo_em => first | kts_exm | k_is | kit_is | kernel_rfl)
    (case xNL_mb => first | k_is | kit_is)
    (case xNL_em => first | kts_exm | k_is | kit_is | kernel_rfl)
    (case xNL_ga => first | k_is | kit_is)
    (case xNL_gt => first | k_is | kit_is)
    (case xNL_ec => first | k_is | kit_is)
    (case xNL_mo => first | k_is | kit_is)
    (case xNL_hd => first | k_is | kit_is)
    (case xNP_hd => first | k_is | kit_is)
    (case xNL_k0 => first | k_is | kit_is)
    (case xNL_k1 => first | k_is | kit_is)
    (case xNL_k2 => first | k_is | kit_is)
    (case xNL_k3 => first | k_is | kit_is)
    (case xNL_k4 => first | k_is | kit_is)
    (case xNL_k5 => first | k_is | kit_is)
    (case xNL_k6 => first | k_is | kit_is)
    (case xNL_kv => first | k_is | kit_is)
    (case xNP_sa => first | k_is | kit_is)
    (case xNP_ov => first | kernel_rfl | rfl)
    (case xNP_tk => first | k_is | kit_is | kernel_rfl)
    (case xNP_na => first | k_is | kit_is)
    (case xNL_sa => first | k_is | kit_is)
    (case xNL_ov => first | kernel_rfl | rfl)
    (case xNL_tk => first | k_is | kit_is | kernel_rfl)
    (case xNL_na => first | k_is | kit_is)
    (case z_len => first | k_is | kit_is)
    (case z_isinstance => first | k_is | kit_is)
    (case z_str => first | k_is | kit_is)
    (case z_all => first | k_is | kit_is)
    (case z_list => first | k_is | kit_is)
    (case z_int => first | k_is | kit_is)
    (case z_bool => first | k_is | kit_is)
    (case z_enumerate => first | k_is | kit_is)
    (case z_range => first | k_is | kit_is)
    (case z_ValueError => first | k_is | kit_is)
    (case A0 => first | k_is | kit_is)
    (case L0 => first | k_is | kit_is)
    (case C0 => first | k_is | kit_is)
    (case K0 => first | k_is | kit_is)
    (case A1 => first | k_is | kit_is)
    (case I1 => first | k_is | kit_is)
    (case L1 => first | k_is | kit_is)
    (case C1 => first | k_is | kit_is)
    (case K1 => first | k_is | kit_is)
    (case A2 => first | k_is | kit_is)
    (case I2 => first | k_is | kit_is)
    (case L2 => first | k_is | kit_is)
    (case C2 => first | k_is | kit_is)
    (case K2 => first | k_is | kit_is)
    (case A3 => first | k_is | kit_is)
    (case I3 => first | k_is | kit_is)
    (case L3 => first | k_is | kit_is)
    (case C3 => first | k_is | kit_is)
    (case K3 => first | k_is | kit_is)
    (case A4 => first | k_is | kit_is)
    (case I4 => first | k_is | kit_is)
    (case L4 => first | k_is | kit_is)
    (case C4 => first | k_is | kit_is)
    (case K4 => first | k_is | kit_is)
    (case A5 => first | k_is | kit_is)
    (case I5 => first | k_is | kit_is)
    (case L5 => first | k_is | kit_is)
    (case C5 => first | k_is | kit_is)
    (case K5 => first | k_is | kit_is)
    (case A6 => first | k_is | kit_is)
    (case I6 => first | k_is | kit_is)
    (case L6 => first | k_is | kit_is)
    (case C6 => first | k_is | kit_is)
    (case K6 => first | k_is | kit_is)
    (case A7 => first | k_is | kit_is)
    (case I7 => first | k_is | kit_is)
    (case L7 => first | k_is | kit_is)
    (case C7 => first | k_is | kit_is)
    (case K7 => first | k_is | kit_is)
    (case A8 => first | k_is | kit_is)
    (case I8 => first | k_is | kit_is)
    (case L8 => first | k_is | kit_is)
    (case C8 => first | k_is | kit_is)
    (case K8 => first | k_is | kit_is)
    (case A9 => first | k_is | kit_is)
    (case I9 => first | k_is | kit_is)
    (case L9 => first | k_is | kit_is)
    (case C9 => first | k_is | kit_is)
    (case K9 => first | k_is | kit_is)
    (case A10 => first | k_is | kit_is)
    (case M10 => first | k_is | kit_is)
    (case I10 => first | k_is | kit_is)
    (case KC10 => first | k_is | kit_is)
    (case L10 => first | k_is | kit_is)
    (case C10 => first | k_is | kit_is)
    (case K10 => first | k_is | kit_is)
    (case A11 => first | k_is | kit_is)
    (case M11 => first | k_is | kit_is)
    (case I11 => first | k_is | kit_is)
    (case KC11 => first | k_is | kit_is)
    (case L11 => first | k_is | kit_is)
    (case C11 => first | k_is | kit_is)
    (case K11 => first | k_is | kit_is)
    (case A12 => first | k_is | kit_is)
    (case M12 => first | k_is | kit_is)
    (case I12 => first | k_is | kit_is)
    (case KC12 => first | k_is | kit_is)
    (case L12 => first | k_is | kit_is)
    (case C12 => first | k_is | kit_is)
    (case K12 => first | k_is | kit_is)
    (case A13 => first | k_is | kit_is)
    (case M13 => first | k_is | kit_is)
    (case I13 => first | k_is | kit_is)
    (case KC13 => first | k_is | kit_is)
    (case L13 => first | k_is | kit_is)
    (case C13 => first | k_is | kit_is)
    (case K13 => first | k_is | kit_is)
    (case A14 => first | k_is | kit_is)
    (case I14 => first | k_is | kit_is)
    (case L14 => first | k_is | kit_is)
    (case C14 => first | k_is | kit_is)
    (case K14 => first | k_is | kit_is)
    (case A15 => first | k_is | kit_is)
    (case I15 => first | k_is | kit_is)
    (case L15 => first | k_is | kit_is)
    (case C15 => first | k_is | kit_is)
    (case K15 => first | k_is | kit_is)
    (case A16 => first | k_is | kit_is)
    (case I16 => first | k_is | kit_is)
    (case L16 => first | k_is | kit_is)
    (case C16 => first | k_is | kit_is)
    (case K16 => first | k_is | kit_is)
    (case A17 => first | k_is | kit_is)
    (case I17 => first | k_is | kit_is)
    (case L17 => first | k_is | kit_is)
    (case C17 => first | k_is | kit_is)
    (case K17 => first | k_is | kit_is)
    (case A18 => first | k_is | kit_is)
    (case I18 => first | k_is | kit_is)
    (case L18 => first | k_is | kit_is)
    (case C18 => first | k_is | kit_is)
    (case K18 => first | k_is | kit_is)
    (case A19 => first | k_is | kit_is)
    (case I19 => first | k_is | kit_is)
    (case L19 => first | k_is | kit_is)
    (case C19 => first | k_is | kit_is)
    (case K19 => first | k_is | kit_is)
    (case A20 => first | k_is | kit_is)
    (case I20 => first | k_is | kit_is)
    (case L20 => first | k_is | kit_is)
    (case C20 => first | k_is | kit_is)
    (case K20 => first | k_is | kit_is)
    (case A21 => first | k_is | kit_is)
    (case I21 => first | k_is | kit_is)
    (case L21 => first | k_is | kit_is)
    (case C21 => first | k_is | kit_is)
    (case K21 => first | k_is | kit_is)
    (case A22 => first | k_is | kit_is)
    (case I22 => first | k_is | kit_is)
    (case L22 => first | k_is | kit_is)
    (case C22 => first | k_is | kit_is)
    (case K22 => first | k_is | kit_is)
    (case A23 => first | k_is | kit_is)
    (case I23 => first | k_is | kit_is)
    (case L23 => first | k_is | kit_is)
    (case C23 => first | k_is | kit_is)
    (case K23 => first | k_is | kit_is)
    (case A24 => first | k_is | kit_is)
    (case L24 => first | k_is | kit_is)
    (case C24 => first | k_is | kit_is)
    (case K24 => first | k_is | kit_is)
    (case A25 => first | k_is | kit_is)
    (case L25 => first | k_is | kit_is)
    (case C25 => first | k_is | kit_is)
    (case K25 => first | k_is | kit_is)
    (case A26 => first | k_is | kit_is)
    (case I26 => first | k_is | kit_is)
    (case L26 => first | k_is | kit_is)
    (case C26 => first | k_is | kit_is)
    (case K26 => first | k_is | kit_is)
    (case A27 => first | k_is | kit_is)
    (case L27 => first | k_is | kit_is)
    (case C27 => first | k_is | kit_is)
    (case K27 => first | k_is | kit_is)
    (case A28 => first | k_is | kit_is)
    (case O28 => first | kernel_rfl | rfl)
    (case I28 => first | k_is | kit_is)
    (case KC28 => first | k_is | kit_is)
    (case L28 => first | k_is | kit_is)
    (case C28 => first | k_is | kit_is)
    (case K28 => first | k_is | kit_is)
    (case A29 => first | k_is | kit_is)
    (case O29 => first | kernel_rfl | rfl)
    (case I29 => first | k_is | kit_is)
    (case KC29 => first | k_is | kit_is)
    (case L29 => first | k_is | kit_is)
    (case C29 => first | k_is | kit_is)
    (case K29 => first | k_is | kit_is)
    (case A30 => first | k_is | kit_is)
    (case I30 => first | k_is | kit_is)
    (case L30 => first | k_is | kit_is)
    (case C30 => first | k_is | kit_is)
    (case K30 => first | k_is | kit_is)
    (case A31 => first | k_is | kit_is)
    (case I31 => first | k_is | kit_is)
    (case L31 => first | k_is | kit_is)
    (case C31 => first | k_is | kit_is)
    (case K31 => first | k_is | kit_is)
    (case A32 => first | k_is | kit_is)
    (case I32 => first | k_is | kit_is)
    (case L32 => first | k_is | kit_is)
    (case C32 => first | k_is | kit_is)
    (case K32 => first | k_is | kit_is)
    (case D32 => first | k_is | kit_is)
    (case A33 => first | k_is | kit_is)
    (case I33 => first | k_is | kit_is)
    (case L33 => first | k_is | kit_is)
    (case C33 => first | k_is | kit_is)
    (case K33 => first | k_is | kit_is)
    (case A34 => first | k_is | kit_is)
    (case L34 => first | k_is | kit_is)
    (case C34 => first | k_is | kit_is)
    (case K34 => first | k_is | kit_is)
    (case A35 => first | k_is | kit_is)
    (case L35 => first | k_is | kit_is)
    (case C35 => first | k_is | kit_is)
    (case K35 => first | k_is | kit_is)
    (case A36 => first | k_is | kit_is)
    (case L36 => first | k_is | kit_is)
    (case C36 => first | k_is | kit_is)
    (case K36 => first | k_is | kit_is)
    (case A37 => first | k_is | kit_is)
    (case L37 => first | k_is | kit_is)
    (case C37 => first | k_is | kit_is)
    (case K37 => first | k_is | kit_is)
    (case A38 => first | k_is | kit_is)
    (case L38 => first | k_is | kit_is)
    (case C38 => first | k_is | kit_is)
    (case K38 => first | k_is | kit_is)
    (case A39 => first | k_is | kit_is)
    (case L39 => first | k_is | kit_is)
    (case C39 => first | k_is | kit_is)
    (case K39 => first | k_is | kit_is)
    (case A40 => first | k_is | kit_is)
    (case L40 => first | k_is | kit_is)
    (case C40 => first | k_is | kit_is)
    (case K40 => first | k_is | kit_is)
    (case A41 => first | k_is | kit_is)
    (case L41 => first | k_is | kit_is)
    (case C41 => first | k_is | kit_is)
    (case K41 => first | k_is | kit_is)
    (case A42 => first | k_is | kit_is)
    (case L42 => first | k_is | kit_is)
    (case C42 => first | k_is | kit_is)
    (case K42 => first | k_is | kit_is)
    (case A43 => first | k_is | kit_is)
    (case L43 => first | k_is | kit_is)
    (case C43 => first | k_is | kit_is)
    (case K43 => first | k_is | kit_is)
    (case A44 => first | k_is | kit_is)
    (case L44 => first | k_is | kit_is)
    (case C44 => first | k_is | kit_is)
    (case K44 => first | k_is | kit_is)
    (case A45 => first | k_is | kit_is)
    (case L45 => first | k_is | kit_is)
    (case C45 => first | k_is | kit_is)
    (case K45 => first | k_is | kit_is)
    (case A46 => first | k_is | kit_is)
    (case L46 => first | k_is | kit_is)
    (case C46 => first | k_is | kit_is)
    (case K46 => first | k_is | kit_is)
    (case al => first | k_is | kit_is)
    (case ll => first | k_is | kit_is)
    (case cl => first | k_is | kit_is)
    (case kl => first | k_is | kit_is)
