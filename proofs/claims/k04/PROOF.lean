import PyProof.Rows.All
import Wide.All
import OpenK.AllK
import Wide.FinOn
import HandS.ForMost
import HandS.Deep
import HandS.DictComp
import HandS.TupAny
import HandS.IsInst
import KE.KDictKeyed
import HandS.Lambda
import HandS.Conv
import HandS.TupLen
import HandS.SortInts
import KE.GoesEnum
import HandS.SetBool
import HandS.TupSets
import HandS.Style
import HandS.RevRange
import KE.KDictPairs
import KE.SortData
import HandS.SortRule
import PySem.Challenge.RW_roletalks_k04_whole_parts_that_do_the_sa
set_option Elab.async false
set_option linter.all false
set_option maxRecDepth 100000
set_option maxHeartbeats 4000000
/-! A layer over the hand layer: expressions and statements as functions on plain data. -/
namespace RT
open PySem PySem.Spec PyProof.Rows L2

inductive D where
  | none
  | bool (b : Bool)
  | int (i : Int)
  | str (x : Str)
  | list (xs : List D)
  | tuple (xs : List D)
  | dict (kvs : List (D × D))
  | dictT (kvs : List (D × D))
  | sets (ns : List Int)
mutual
def D.py : D → PyData
  | .none => .none
  | .bool b => .bool b
  | .int i => .int i
  | .str x => .str x
  | .list xs => .list (pyAll xs)
  | .tuple xs => .tuple (pyAll xs)
  | .dict _ => .dict []
  | .dictT _ => .dict []
  | .sets _ => .dict []
def pyAll : List D → List PyData
  | [] => []
  | x :: xs => D.py x :: pyAll xs
end
def shapedD (d : D) : Bool := SeqAt.shaped d.py
def eqD (d e : D) : Bool := PyData.eqv d.py e.py
structure FRow where
  ns : List Int
  a : Int
  b : Int
  c : Int
inductive OwD where
  | lst (ds : List D) | dk (ds : List (D × D)) | dt (ds : List (D × D))
def OwD.d : OwD → D
  | .lst ds => .list ds
  | .dk ds => .dict ds
  | .dt ds => .dictT ds
inductive FSl where
  | no | va (d : D) | ow (d : OwD) | rw
  /-- an owned dict with keys of any kind -/
  | da (ds : List (D × D))
  /-- a function made here: its object, its code object, that one's name, what it captured -/
  | fn (f c : Addr) (q : Str) (gs : List (V × D))
abbrev FEn := List FSl
inductive FRs where
  | nx (e : FEn) | rt (d : D) | bk (e : FEn) | ct (e : FEn)
abbrev FE := FEn → FRow → Option (D × FRow)
abbrev FT := FEn → FRow → Option (Bool × FRow)
abbrev FA := FEn → FRow → Option (List D × FRow)
abbrev FS := FEn → FRow → Option (FRs × FRow)

def keyD : L2.Key → D
  | .inl i => .int i
  | .inr x => .str x

mutual
inductive Rp (K : PySem.W.Frag) (O : Addr → Prop) (H : Hp) : V → D → Prop
  | non : Rp K O H .non .none
  | bl (b : Bool) : Rp K O H (.bl b) (.bool b)
  | int (i : Int) : Rp K O H (.int i) (.int i)
  | str (x : Str) : Rp K O H (.str x) (.str x)
  | lst {a : Addr} {xs : List V} {ds : List D} : ¬ O a → H a = some (.lst xs) → RpA K O H xs ds → Rp K O H (.ref a) (.list ds)
  | tup {a : Addr} {xs : List V} {ds : List D} : ¬ O a → H a = some (.tup xs) → RpA K O H xs ds → Rp K O H (.ref a) (.tuple ds)
  | dK {a : Addr} {kvs : List (L2.Key × V)} {ds : List (D × D)} : ¬ O a → L2.Rd H a (.dK kvs) → RpK K O H kvs ds → Rp K O H (.ref a) (.dict ds)
  | dT {a : Addr} {kvs : List (List L2.Key × V)} {ds : List (D × D)} : ¬ O a → H a = some (.dT kvs) → RpT K O H kvs ds → Rp K O H (.ref a) (.dictT ds)
inductive RpA (K : PySem.W.Frag) (O : Addr → Prop) (H : Hp) : List V → List D → Prop
  | nil : RpA K O H [] []
  | cons {v : V} {vs : List V} {d : D} {ds : List D} : Rp K O H v d → RpA K O H vs ds → RpA K O H (v :: vs) (d :: ds)
inductive RpK (K : PySem.W.Frag) (O : Addr → Prop) (H : Hp) : List (L2.Key × V) → List (D × D) → Prop
  | nil : RpK K O H [] []
  | cons {k : L2.Key} {v : V} {vs : List (L2.Key × V)} {d : D} {ds : List (D × D)} : Rp K O H v d → RpK K O H vs ds → RpK K O H ((k, v) :: vs) ((keyD k, d) :: ds)
inductive RpT (K : PySem.W.Frag) (O : Addr → Prop) (H : Hp) : List (List L2.Key × V) → List (D × D) → Prop
  | nil : RpT K O H [] []
  | cons {k : List L2.Key} {v : V} {vs : List (List L2.Key × V)} {d : D} {ds : List (D × D)} : Rp K O H v d → RpT K O H vs ds → RpT K O H ((k, v) :: vs) ((.tuple (k.map keyD), d) :: ds)
end

/-- the defs in which functions are made -/
def makers : List Str := ["set_web", "letters_from", "scenes_behind", "position_web", "why_not", "met", "shake_web"]
def lamq (x : Str) : Str := x ++ ".<locals>." ++ "<lambda>"
/-- the tables of the makers' code objects, each with the name of its functions -/
def TOK (K : PySem.W.Frag) (T : List (Addr × Str)) : Prop := ∀ x ∈ makers, ∀ c P, PySem.W.tabIn K x = some (c, P) → (P, lamq x) ∈ T ∧ ∀ p ∈ T, p.1 = P → p.2 = lamq x
theorem tok_nil {K : PySem.W.Frag} (h : (makers.all fun x => (PySem.W.tabIn K x).isNone) = true) : TOK K [] := fun x hx c P e => by
  have z := List.all_eq_true.mp h x hx
  rw [e] at z
  cases z
def isNT : HO → Bool
  | .tbl _ => false
  | _ => true
theorem isNT.ne {o : HO} (h : isNT o = true) (ps : Array Value) : o ≠ .tbl ps := fun e => by rw [e] at h; cases h
/-- a code object -/
def IsC (o : HO) : Prop := ∃ c q, o = LamX.CodeO c q
/-- what may be owned -/
def MutC : Option HO → Prop
  | some (.lst _) => True
  | some (.dK _) => True
  | some (.dT _) => True
  | some (.ext φ) => ¬ IsC (.ext φ)
  | _ => False
theorem mut_nt {o : HO} (h : MutC (some o)) : isNT o = true := by cases o <;> first | rfl | exact h.elim
theorem notC_lst {xs : List V} : ¬ IsC (.lst xs) := fun ⟨_, _, e⟩ => by unfold LamX.CodeO at e; cases e
theorem notC_dK {xs : List (L2.Key × V)} : ¬ IsC (.dK xs) := fun ⟨_, _, e⟩ => by unfold LamX.CodeO at e; cases e
theorem notC_dT {xs : List (List L2.Key × V)} : ¬ IsC (.dT xs) := fun ⟨_, _, e⟩ => by unfold LamX.CodeO at e; cases e
theorem notC_frz {o : Obj} {u : HO} : ¬ IsC (.frz o u) := fun ⟨_, _, e⟩ => by unfold LamX.CodeO at e; cases e
theorem MutC.nc {o : HO} (h : MutC (some o)) : ¬ IsC o := by
  cases o with
  | lst => exact notC_lst
  | dK => exact notC_dK
  | dT => exact notC_dT
  | ext => exact h
  | _ => exact h.elim
theorem MutC.mut {o : HO} (h : MutC (some o)) : Mut (some o) := by cases o <;> first | trivial | exact h.elim
section
variable {ω : World} {K : PySem.W.Frag} {O O' : Addr → Prop} {H H' : Hp}
/-- what is not to change stays, but for the tables of code objects -/
def Keep (O : Addr → Prop) (H H' : Hp) : Prop := ∀ a o, ¬ O a → H a = some o → isNT o = true → H' a = some o
/-- all stays, but for the tables -/
def SameT (T : List (Addr × Str)) (H H' : Hp) : Prop := (∀ a o, H a = some o → isNT o = true → H' a = some o) ∧ LamX.Tabs T H'
theorem SameT.of {T : List (Addr × Str)} (t : LamX.Tabs T H) (h : Same H H') : SameT T H H' := ⟨fun a o e _ => h a o e, t.ext h⟩
/-- nothing is there, or a table -/
def Gone (H : Hp) (p : Addr) : Prop := ∀ o, H p = some o → isNT o = false
theorem Gone.of {p : Addr} (h : H p = none) : Gone H p := fun o e => by rw [h] at e; cases e
theorem Gone.no {p : Addr} {o : HO} (h : Gone H p) (e : H p = some o) (t : isNT o = true) : False := by have := h o e; rw [t] at this; cases this
def Wid (O O' : Addr → Prop) (H : Hp) : Prop := ∀ a, O' a → O a ∨ Gone H a
theorem Wid.no (w : Wid O O' H) {a : Addr} {o : HO} (h : ¬ O a) (e : H a = some o) (t : isNT o = true := by rfl) : ¬ O' a := fun z => by
  rcases w a z with q | q
  · exact h q
  · exact q.no e t
theorem Wid.noR (w : Wid O O' H) {a : Addr} {o : HO} (h : ¬ O a) (e : L2.Rd H a o) (t : isNT o = true := by rfl) : ¬ O' a := e.elim (fun e => w.no h e t) fun ⟨_, e⟩ => w.no h e
theorem Keep.rd (k : Keep O H H') {a : Addr} {o : HO} (h : ¬ O a) (e : L2.Rd H a o) (n : isNT o = true := by rfl) : L2.Rd H' a o := e.elim (fun e => .inl (k _ _ h e n)) fun ⟨q, e⟩ => .inr ⟨q, k _ _ h e rfl⟩
/-- what is read stays to be read -/
structure Kq (O : Addr → Prop) (H H' : Hp) : Prop where
  l : ∀ a xs, ¬ O a → H a = some (.lst xs) → H' a = some (.lst xs)
  t : ∀ a xs, ¬ O a → H a = some (.tup xs) → H' a = some (.tup xs)
  d : ∀ a xs, ¬ O a → H a = some (.dT xs) → H' a = some (.dT xs)
  k : ∀ a xs, ¬ O a → L2.Rd H a (.dK xs) → L2.Rd H' a (.dK xs)
mutual
theorem Rp.mv (k : Kq O H H') : ∀ {v : V} {d : D}, Rp K O H v d → Rp K O H' v d
  | _, _, .non => .non
  | _, _, .bl b => .bl b
  | _, _, .int i => .int i
  | _, _, .str x => .str x
  | _, _, .lst h e r => .lst h (k.l _ _ h e) (RpA.mv k r)
  | _, _, .tup h e r => .tup h (k.t _ _ h e) (RpA.mv k r)
  | _, _, .dK h e r => .dK h (k.k _ _ h e) (RpK.mv k r)
  | _, _, .dT h e r => .dT h (k.d _ _ h e) (RpT.mv k r)
theorem RpA.mv (k : Kq O H H') : ∀ {v : List V} {d : List D}, RpA K O H v d → RpA K O H' v d
  | _, _, .nil => .nil
  | _, _, .cons a b => .cons (Rp.mv k a) (RpA.mv k b)
theorem RpK.mv (k : Kq O H H') : ∀ {v : List (L2.Key × V)} {d : List (D × D)}, RpK K O H v d → RpK K O H' v d
  | _, _, .nil => .nil
  | _, _, .cons a b => .cons (Rp.mv k a) (RpK.mv k b)
theorem RpT.mv (k : Kq O H H') : ∀ {v : List (List L2.Key × V)} {d : List (D × D)}, RpT K O H v d → RpT K O H' v d
  | _, _, .nil => .nil
  | _, _, .cons a b => .cons (Rp.mv k a) (RpT.mv k b)
end
mutual
theorem Rp.move (k : Keep O H H') (w : Wid O O' H) : ∀ {v : V} {d : D}, Rp K O H v d → Rp K O' H' v d
  | _, _, .non => .non
  | _, _, .bl b => .bl b
  | _, _, .int i => .int i
  | _, _, .str x => .str x
  | _, _, .lst h e r => .lst (w.no h e) (k _ _ h e rfl) (RpA.move k w r)
  | _, _, .tup h e r => .tup (w.no h e) (k _ _ h e rfl) (RpA.move k w r)
  | _, _, .dK h e r => .dK (w.noR h e) (k.rd h e) (RpK.move k w r)
  | _, _, .dT h e r => .dT (w.no h e) (k _ _ h e rfl) (RpT.move k w r)
theorem RpA.move (k : Keep O H H') (w : Wid O O' H) : ∀ {v : List V} {d : List D}, RpA K O H v d → RpA K O' H' v d
  | _, _, .nil => .nil
  | _, _, .cons a b => .cons (Rp.move k w a) (RpA.move k w b)
theorem RpK.move (k : Keep O H H') (w : Wid O O' H) : ∀ {v : List (L2.Key × V)} {d : List (D × D)}, RpK K O H v d → RpK K O' H' v d
  | _, _, .nil => .nil
  | _, _, .cons a b => .cons (Rp.move k w a) (RpK.move k w b)
theorem RpT.move (k : Keep O H H') (w : Wid O O' H) : ∀ {v : List (List L2.Key × V)} {d : List (D × D)}, RpT K O H v d → RpT K O' H' v d
  | _, _, .nil => .nil
  | _, _, .cons a b => .cons (Rp.move k w a) (RpT.move k w b)
end
theorem Wid.refl : Wid O O H := fun _ h => .inl h
theorem Keep.of (h : Same H H') : Keep O H H' := fun a o _ e _ => h a o e
theorem Keep.ofT {T : List (Addr × Str)} (h : SameT T H H') : Keep O H H' := fun a o _ e n => h.1 a o e n
theorem RpA.length : ∀ {v : List V} {d : List D}, RpA K O H v d → v.length = d.length
  | _, _, .nil => rfl
  | _, _, .cons _ b => by rw [List.length_cons, List.length_cons, RpA.length b]
theorem RpA.app : ∀ {v w : List V} {d e : List D}, RpA K O H v d → RpA K O H w e → RpA K O H (v ++ w) (d ++ e)
  | _, _, _, _, .nil, h => h
  | _, _, _, _, .cons a b, h => .cons a (RpA.app b h)
theorem RpA.get : ∀ {v : List V} {d : List D} {i : Nat} {x : D}, RpA K O H v d → d[i]? = some x → ∃ y, v[i]? = some y ∧ Rp K O H y x
  | _, _, _, _, .nil, h => by simp at h
  | _, _, 0, _, .cons a b, h => by simp at h; subst h; exact ⟨_, rfl, a⟩
  | _, _, i + 1, _, .cons a b, h => by
    obtain ⟨y, e, r⟩ := RpA.get (i := i) b (by simpa using h)
    exact ⟨y, by simpa using e, r⟩
theorem RpA.get' : ∀ {v : List V} {d : List D} {i : Nat} {y : V}, RpA K O H v d → v[i]? = some y → ∃ x, d[i]? = some x ∧ Rp K O H y x
  | _, _, _, _, .nil, h => by simp at h
  | _, _, 0, _, .cons a b, h => by simp at h; subst h; exact ⟨_, rfl, a⟩
  | _, _, i + 1, _, .cons a b, h => by
    obtain ⟨y, e, r⟩ := RpA.get' (i := i) b (by simpa using h)
    exact ⟨y, by simpa using e, r⟩
theorem RpA.take : ∀ {v : List V} {d : List D} (n : Nat), RpA K O H v d → RpA K O H (v.take n) (d.take n)
  | _, _, 0, _ => by simp; exact .nil
  | _, _, _ + 1, .nil => .nil
  | _, _, n + 1, .cons a b => .cons a (RpA.take n b)
theorem RpA.drop : ∀ {v : List V} {d : List D} (n : Nat), RpA K O H v d → RpA K O H (v.drop n) (d.drop n)
  | _, _, 0, h => h
  | _, _, _ + 1, .nil => .nil
  | _, _, n + 1, .cons a b => RpA.drop n b
theorem RpA.ints : ∀ {v : List V} {ns : List Int}, RpA K O H v (ns.map .int) → v = ns.map V.int
  | _, [], h => by cases h; rfl
  | _, n :: ns, h => by
    cases h with
    | cons a b => cases a; rw [RpA.ints b]; rfl
theorem RpA.ofInts : ∀ (ns : List Int), RpA K O H (ns.map V.int) (ns.map .int)
  | [] => .nil
  | n :: ns => .cons (.int n) (RpA.ofInts ns)
theorem RpA.bls : ∀ {v : List V} {ns : List Bool}, RpA K O H v (ns.map .bool) → v = ns.map V.bl
  | _, [], h => by cases h; rfl
  | _, n :: ns, h => by
    cases h with
    | cons a b => cases a; rw [RpA.bls b]; rfl
mutual
theorem Rp.dp : ∀ {v : V} {d : D}, Rp K O H v d → d.py.canLay0 = true → Dp K H v d.py
  | _, _, .non, _ => by simp only [D.py]; exact .non
  | _, _, .bl b, _ => by simp only [D.py]; exact .bl b
  | _, _, .int i, _ => by simp only [D.py]; exact .int i
  | _, _, .str x, _ => by simp only [D.py]; exact .str x
  | _, _, .lst h e r, s => by simp only [D.py] at s ⊢; exact .lst (.inl (.inl e)) (RpA.dp r (by simpa [PyData.canLay0] using s))
  | _, _, .tup h e r, s => by simp only [D.py] at s ⊢; exact .tup (.inl (.inl e)) (RpA.dp r (by simpa [PyData.canLay0] using s))
  | _, _, .dK _ _ _, s => by simp [D.py, PyData.canLay0] at s
  | _, _, .dT _ _ _, s => by simp [D.py, PyData.canLay0] at s
theorem RpA.dp : ∀ {v : List V} {d : List D}, RpA K O H v d → PyData.canLayAll0 (pyAll d) = true → DpAll K H v (pyAll d)
  | _, _, .nil, _ => by simp only [pyAll]; exact .nil
  | _, _, .cons a b, h => by
    simp only [pyAll] at h ⊢
    rw [PyData.canLayAll0, Bool.and_eq_true] at h
    exact .cons (Rp.dp a h.1) (RpA.dp b h.2)
end
theorem Rp.seqT {a : Addr} {ds : List D} (h : Rp K O H (.ref a) (.tuple ds)) : ∃ xs, SqT K H a xs ∧ RpA K O H xs ds := by
  cases h with
  | tup n e r => exact ⟨_, .inl (.inl e), r⟩
theorem Rp.tupAt {v : V} {ds : List D} (h : Rp K O H v (.tuple ds)) : ∃ a xs, v = .ref a ∧ H a = some (.tup xs) ∧ RpA K O H xs ds := by
  cases h with
  | tup n e r => exact ⟨_, _, rfl, e, r⟩
theorem Rp.isRef {v : V} {ds : List D} (h : Rp K O H v (.tuple ds)) : ∃ a, v = .ref a := by cases h <;> exact ⟨_, rfl⟩
end

/-! ### the state -/
structure FG where
  O0 : Addr → Prop
  H0 : Hp
  R : Option Addr
  gs : List (V × D)
  T : List (Addr × Str)
  w : World
def Le (g : FG) (H H' : Hp) : Prop := ∀ a o, g.R ≠ some a → H a = some o → isNT o = true → H' a = some o
theorem Le.refl (g : FG) (H : Hp) : Le g H H := fun _ _ _ h _ => h
theorem Le.trans {g : FG} {H H1 H2 : Hp} (a : Le g H H1) (b : Le g H1 H2) : Le g H H2 := fun c o n h t => b c o n (a c o n h t) t
theorem Le.of {g : FG} {H H' : Hp} (h : Same H H') : Le g H H' := fun a o _ e _ => h a o e
theorem Le.ofT {g : FG} {T : List (Addr × Str)} {H H' : Hp} (h : SameT T H H') : Le g H H' := fun a o _ e n => h.1 a o e n
theorem Le.ofN {g : FG} {H H' : Hp} (h : LamX.ExtN H H') : Le g H H' := fun a o _ e n => h a o e (isNT.ne n)
/-- all but the tables -/
def noT (H : Hp) : Hp := fun a => match H a with
  | some o => if isNT o then some o else none
  | none => none
theorem noT_some {H : Hp} {a : Addr} {o : HO} (h : noT H a = some o) : H a = some o ∧ isNT o = true := by
  unfold noT at h
  split at h
  · split at h
    · rename_i e t; cases h; exact ⟨e, t⟩
    · cases h
  · cases h
theorem noT_of {H : Hp} {a : Addr} {o : HO} (h : H a = some o) (t : isNT o = true) : noT H a = some o := by
  unfold noT; rw [h]; simp only [t, if_true]
def RowAt (K : PySem.W.Frag) (H : Hp) (r : Addr) (x : FRow) : Prop := ∃ a0, H r = some (.lst [.ref a0, .int x.a, .int x.b, .int x.c]) ∧ ((∃ o, H a0 = some (.frz o (.lst (x.ns.map V.int)))) ∨ SqL K (fun _ => none) a0 (x.ns.map V.int))
def OwAt (K : PySem.W.Frag) (O : Addr → Prop) (H : Hp) (a : Addr) : OwD → Prop
  | .lst ds => ∃ xs, H a = some (.lst xs) ∧ RpA K O H xs ds
  | .dk ds => ∃ kvs, H a = some (.dK kvs) ∧ RpK K O H kvs ds
  | .dt ds => ∃ kvs, H a = some (.dT kvs) ∧ RpT K O H kvs ds
/-! dicts with keys of any kind -/
mutual
def nk : D → Option NestedKey
  | .none => some .none
  | .bool b => some (.num (if b = true then 1 else 0))
  | .int i => some (.num i)
  | .str x => some (.text x)
  | .tuple xs => (nks xs).map .tup
  | _ => none
def nks : List D → Option (List NestedKey)
  | [] => some []
  | d :: ds => match nk d, nks ds with
    | some k, some ks => some (k :: ks)
    | _, _ => none
end
abbrev DaX := NestedKey × Value × Value
def RawD (w : World) (a : Addr) (xs : List DaX) (h : Heap) : Prop :=
  (a == sysModules) = false ∧ ∃ o es ep, h.get? a = some o ∧ o.ExactDict ∧ o.data = .dict es ep ∧ es.toList = xs.map (fun x => (⟨x.1.hash w, x.2.1, x.2.2⟩ : DictEntry)) ∧ (xs.map (·.1)).Nodup
def isTupD : D → Bool
  | .tuple _ => true
  | _ => false
def lf : D → Option Leaf
  | .none => some .none
  | .bool b => some (.num (if b = true then 1 else 0))
  | .int i => some (.num i)
  | .str x => some (.text x)
  | _ => none
structure DaR (K : PySem.W.Frag) (O : Addr → Prop) (H : Hp) (x : DaX) (p : D × D) : Prop where
  k : nk p.1 = some x.1
  dp : x.1.depth ≤ 8
  u : isTupD p.1 = true → ∃ v, L2.RelV v x.2.1 ∧ Rp K O H v p.1
  l : ∀ l, lf p.1 = some l → Leaf.isOf l x.2.1 = true
  v : ∃ v, L2.RelV v x.2.2 ∧ Rp K O H v p.2
def DaAt (K : PySem.W.Frag) (O : Addr → Prop) (H : Hp) (a : Addr) (w : World) (ds : List (D × D)) : Prop :=
  ∃ xs, H a = some (.ext (RawD w a xs)) ∧ Paired (DaR K O H) xs ds
theorem DaR.mv {K : PySem.W.Frag} {O O' : Addr → Prop} {H H' : Hp} {x : DaX} {p : D × D} (f : ∀ v d, Rp K O H v d → Rp K O' H' v d) (r : DaR K O H x p) : DaR K O' H' x p :=
  ⟨r.k, r.dp, fun t => let ⟨v, a, b⟩ := r.u t; ⟨v, a, f _ _ b⟩, r.l, let ⟨v, a, b⟩ := r.v; ⟨v, a, f _ _ b⟩⟩
theorem DaAt.mv {K : PySem.W.Frag} {O O' : Addr → Prop} {H H' : Hp} {a : Addr} {w : World} {ds : List (D × D)} (h : DaAt K O H a w ds) (e : ∀ o, H a = some o → isNT o = true → H' a = some o) (f : ∀ v d, Rp K O H v d → Rp K O' H' v d) : DaAt K O' H' a w ds :=
  let ⟨xs, q, r⟩ := h; ⟨xs, e _ q rfl, L2.Paired.mapP r fun _ _ => DaR.mv f⟩
inductive SlOk (K : PySem.W.Frag) (g : FG) (O : Addr → Prop) (H : Hp) : Option V → FSl → Prop
  | no (s : Option V) : SlOk K g O H s .no
  | va {v : V} {d : D} : Rp K O H v d → SlOk K g O H (some v) (.va d)
  | ow {a : Addr} {d : OwD} : O a → ¬ g.O0 a → g.R ≠ some a → OwAt K O H a d → SlOk K g O H (some (.ref a)) (.ow d)
  | rw {r : Addr} : g.R = some r → SlOk K g O H (some (.ref r)) .rw
  | da {a : Addr} {ds : List (D × D)} : O a → ¬ g.O0 a → g.R ≠ some a → DaAt K O H a g.w ds → SlOk K g O H (some (.ref a)) (.da ds)
  | fn {f c : Addr} {q : Str} {gs : List (V × D)} : ¬ O c → H c = some (LamX.CodeO c q) → (∀ p ∈ gs, Rp K O H p.1 p.2) → SlOk K g O H (some (.ref f)) (.fn f c q gs)
structure FSt (ω : World) (K : PySem.W.Frag) (g : FG) (O : Addr → Prop) (σ : L2.St) (H : Hp) (env : FEn) (x : FRow) : Prop where
  sub : ∀ a, g.O0 a → O a
  new : ∀ a, O a → g.O0 a ∨ g.H0 a = none
  dom : ∀ a, O a → MutC (H a)
  le : Le g g.H0 H
  row : ∀ r, g.R = some r → g.O0 r ∧ g.H0 r ≠ none ∧ RowAt K H r x
  len : σ.length = env.length
  sl : ∀ (i : Nat) s e, σ[i]? = some s → env[i]? = some e → SlOk K g O H s e
  dis : ∀ (i j : Nat) d d' a b, i ≠ j → env[i]? = some (.ow d) → env[j]? = some (.ow d') → σ[i]? = some (some (.ref a)) → σ[j]? = some (some (.ref b)) → a ≠ b
  gh : ∀ p ∈ g.gs, Rp K O H p.1 p.2
  tb : LamX.Tabs g.T H
  tk : TOK K g.T
  nt0 : ∀ a o, g.H0 a = some o → isNT o = true
  ww : g.w = ω
section
variable {ω : World} {K : PySem.W.Frag} {g : FG} {O : Addr → Prop} {σ : L2.St} {H H' : Hp} {env : FEn} {x x' : FRow}
theorem OwAt.move {O' : Addr → Prop} {a : Addr} {d : OwD} (h : OwAt K O H a d) (e : ∀ o, H a = some o → isNT o = true → H' a = some o) (k : Keep O H H') (w : Wid O O' H) : OwAt K O' H' a d := by
  cases d with
  | lst ds => obtain ⟨xs, q, r⟩ := h; exact ⟨xs, e _ q rfl, r.move k w⟩
  | dk ds => obtain ⟨xs, q, r⟩ := h; exact ⟨xs, e _ q rfl, r.move k w⟩
  | dt ds => obtain ⟨xs, q, r⟩ := h; exact ⟨xs, e _ q rfl, r.move k w⟩
theorem FSt.keep (S : FSt ω K g O σ H env x) (h : Le g H H') : Keep O H H' := fun a o n e t => h a o (fun z => n (S.sub a (S.row a z).1)) e t
/-- an expression went by: what is not the row's stays -/
theorem FSt.step (S : FSt ω K g O σ H env x) (h : Le g H H') (ht : LamX.Tabs g.T H') (hr : ∀ r, g.R = some r → RowAt K H' r x') : FSt ω K g O σ H' env x' where
  tb := ht
  tk := S.tk
  nt0 := S.nt0
  ww := S.ww
  sub := S.sub
  new := S.new
  dom := fun a ha => by
    have z := S.dom a ha
    cases q : H a with
    | none => rw [q] at z; exact z.elim
    | some o =>
      by_cases hR : g.R = some a
      · obtain ⟨a0, e, _⟩ := hr a hR
        rw [e]; exact True.intro
      · rw [h a o hR q (mut_nt (by rw [q] at z; exact z)), ← q]; exact z
  le := S.le.trans h
  row := fun r e => ⟨(S.row r e).1, (S.row r e).2.1, hr r e⟩
  len := S.len
  sl := fun i s e h1 h2 => by
    have k := S.keep h
    cases S.sl i s e h1 h2 with
    | no => exact .no _
    | va r => exact .va (r.move k .refl)
    | ow a b c d => exact .ow a b c (d.move (fun o q t => h _ o c q t) k .refl)
    | rw e => exact .rw e
    | da a b c d => exact .da a b c (d.mv (fun o q t => h _ o c q t) fun _ _ r => r.move k .refl)
    | fn a b c => exact .fn a (k _ _ a b rfl) fun p hp => (c p hp).move k .refl
  dis := S.dis
  gh := fun p hp => (S.gh p hp).move (S.keep h) .refl
theorem RowAt.same {r : Addr} (h : Same H H') (q : RowAt K H r x) : RowAt K H' r x := by
  obtain ⟨a0, e, q⟩ := q
  refine ⟨a0, h _ _ e, ?_⟩
  rcases q with ⟨o, q⟩ | q
  · exact .inl ⟨o, h _ _ q⟩
  · exact .inr q
theorem FSt.same (S : FSt ω K g O σ H env x) (h : Same H H') : FSt ω K g O σ H' env x := S.step (.of h) (S.tb.ext h) fun r e => (S.row r e).2.2.same h
theorem RowAt.sameT {T : List (Addr × Str)} {r : Addr} (h : SameT T H H') (q : RowAt K H r x) : RowAt K H' r x := by
  obtain ⟨a0, e, q⟩ := q
  refine ⟨a0, h.1 _ _ e rfl, ?_⟩
  rcases q with ⟨o, q⟩ | q
  · exact .inl ⟨o, h.1 _ _ q rfl⟩
  · exact .inr q
theorem FSt.sameT (S : FSt ω K g O σ H env x) (h : SameT g.T H H') : FSt ω K g O σ H' env x := S.step (.ofT h) h.2 fun r e => (S.row r e).2.2.sameT h
theorem notC_ow {O : Addr → Prop} {a : Addr} {d : OwD} {o : HO} (h : OwAt K O H a d) (e : H a = some o) : ¬ IsC o := by
  cases d with
  | lst ds => obtain ⟨xs, q, _⟩ := h; rw [q] at e; cases e; exact notC_lst
  | dk ds => obtain ⟨xs, q, _⟩ := h; rw [q] at e; cases e; exact notC_dK
  | dt ds => obtain ⟨xs, q, _⟩ := h; rw [q] at e; cases e; exact notC_dT
theorem tabs_upd {T : List (Addr × Str)} {a : Addr} {o o' : HO} (t : LamX.Tabs T H) (h : H a = some o) (n : isNT o = true) (c : ¬ IsC o) : LamX.Tabs T (upd H a o') := fun p hp => by
  obtain ⟨ps, h1, h2, h3⟩ := t p hp
  refine ⟨ps, by rw [upd_ne (fun z => by rw [z, h] at h1; cases h1; cases n)]; exact h1, h2, fun pos cv hc => ?_⟩
  obtain ⟨b, e1, e2⟩ := h3 pos cv hc
  exact ⟨b, e1, by rw [upd_ne (fun z => by rw [z, h] at e2; cases e2; exact c ⟨_, _, rfl⟩)]; exact e2⟩
theorem not_code {φ : Heap → Prop} (h : ∀ (hp : Heap), φ hp → ∃ (a : Addr) (o : Obj), hp.get? a = some o ∧ ∀ vs, o.data ≠ .fields vs) : ¬ IsC (.ext φ) := fun ⟨c, q, e⟩ => by
  have e' : φ = fun h => ∃ (oc : Obj) (vs : Array Value) (t : Tok), h.get? c = some oc ∧ oc.data = .fields vs ∧ vs[1]? = some (.str q t) := by unfold LamX.CodeO at e; injection e
  have g : ∀ n a o, Heap.get? ⟨Array.replicate n ⟨.none, none, .fields #[.none, .str q default], #[]⟩, {}⟩ a = some o → o = ⟨.none, none, .fields #[.none, .str q default], #[]⟩ := fun n a o z => by
    unfold Heap.get? at z
    rw [Array.getElem?_replicate] at z
    split at z
    · cases z
    · split at z
      · exact (Option.some.inj z).symm
      · cases z
  have k : φ ⟨Array.replicate (c + 1) ⟨.none, none, .fields #[.none, .str q default], #[]⟩, {}⟩ := by
    rw [e']
    refine ⟨⟨.none, none, .fields #[.none, .str q default], #[]⟩, #[.none, .str q default], default, ?_, rfl, rfl⟩
    unfold Heap.get?
    rw [Array.getElem?_replicate, if_pos (Nat.lt_succ_self c)]
  obtain ⟨a, o, ho, hd⟩ := h _ k
  rw [g _ _ _ ho] at hd
  exact hd _ rfl
theorem same_upd {p : Addr} {o : HO} (h : H p = none) : Same H (upd H p o) := fun b x e => by
  rw [upd_ne (ne_of_none e h)]
  exact e
theorem FSt.notO (S : FSt ω K g O σ H env x) {p : Addr} (h : H p = none) : ¬ O p := fun z => by
  have q := S.dom p z
  rw [h] at q
  exact q
end

/-! ### readings -/
def tE (ω : World) (K : PySem.W.Frag) (f : FE) : TE := fun σ H Q => ∃ g O env x d x', FSt ω K g O σ H env x ∧ f env x = some (d, x') ∧
  ∀ v H', FSt ω K g O σ H' env x' → Le g H H' → Rp K O H' v d → Q v H'
/-- borrowed: what an owned name holds, too -/
def RpB (K : PySem.W.Frag) (g : FG) (O : Addr → Prop) (H : Hp) (v : V) (d : D) : Prop := Rp K O H v d ∨ ∃ a w, v = .ref a ∧ d = OwD.d w ∧ O a ∧ g.R ≠ some a ∧ OwAt K O H a w
def tB (ω : World) (K : PySem.W.Frag) (f : FE) : TE := fun σ H Q => ∃ g O env x d x', FSt ω K g O σ H env x ∧ f env x = some (d, x') ∧
  ∀ v H', FSt ω K g O σ H' env x' → Le g H H' → RpB K g O H' v d → Q v H'
def tT (ω : World) (K : PySem.W.Frag) (f : FT) : TT := fun σ H Q => ∃ g O env x d x', FSt ω K g O σ H env x ∧ f env x = some (d, x') ∧
  ∀ H', FSt ω K g O σ H' env x' → Le g H H' → Q d H'
def tA (ω : World) (K : PySem.W.Frag) (f : FA) : TA := fun σ H Q => ∃ g O env x d x', FSt ω K g O σ H env x ∧ f env x = some (d, x') ∧
  ∀ v H', FSt ω K g O σ H' env x' → Le g H H' → RpA K O H' v d → Q v H'
def tS (ω : World) (K : PySem.W.Frag) (f : FS) : TS := fun Dn σ H => ∃ g O env x r x', FSt ω K g O σ H env x ∧ f env x = some (r, x') ∧
  match r with
  | .nx env' => ∀ O' σ' H', FSt ω K g O' σ' H' env' x' → Dn.nx σ' H'
  | .bk env' => ∀ O' σ' H', FSt ω K g O' σ' H' env' x' → Dn.bk σ' H'
  | .ct env' => ∀ O' σ' H', FSt ω K g O' σ' H' env' x' → Dn.ct σ' H'
  | .rt d => ∀ O' σ' H' v env', FSt ω K g O' σ' H' env' x' → Rp K O' H' v d → Dn.rt v H'
structure SE (X : Cx) (e : Expr) (f : FE) : Prop where
  out : PE X e (tE X.w X.K f)
structure SB (X : Cx) (e : Expr) (f : FE) : Prop where
  out : PE X e (tB X.w X.K f)
structure ST (X : Cx) (e : Expr) (f : FT) : Prop where
  out : PT X e (tT X.w X.K f)
structure SA (X : Cx) (e : List Expr) (f : FA) : Prop where
  out : PA X e (tA X.w X.K f)
structure SS (X : Cx) (e : Stmt) (f : FS) : Prop where
  out : PS X e (tS X.w X.K f)
structure SSs (X : Cx) (e : List Stmt) (f : FS) : Prop where
  out : PSs X e (tS X.w X.K f)
section
variable {X : Cx} {e : Expr} {t t' : TE}
theorem PEw (h : PE X e t) (q : ∀ σ H Q, t' σ H Q → t σ H Q) : PE X e t' := ⟨fun pins s σ H Q I z => h.run pins s σ H Q I (q _ _ _ z)⟩
theorem PTw {t t' : TT} (h : PT X e t) (q : ∀ σ H Q, t' σ H Q → t σ H Q) : PT X e t' := ⟨fun pins s σ H Q I z => h.run pins s σ H Q I (q _ _ _ z)⟩
theorem PAw {e : List Expr} {t t' : TA} (h : PA X e t) (q : ∀ σ H Q, t' σ H Q → t σ H Q) : PA X e t' := ⟨fun p pins s σ H Q I z => h.run p pins s σ H Q I (q _ _ _ z)⟩
theorem PSw {e : Stmt} {t t' : TS} (h : PS X e t) (q : ∀ σ H Q, t' σ H Q → t σ H Q) : PS X e t' := ⟨fun pins s σ H Q I z => h.run pins s σ H Q I (q _ _ _ z)⟩
theorem PSsw {e : List Stmt} {t t' : TS} (h : PSs X e t) (q : ∀ σ H Q, t' σ H Q → t σ H Q) : PSs X e t' := ⟨fun pins s σ H Q I z => h.run pins s σ H Q I (q _ _ _ z)⟩
end

/-! ### names, constants -/
section
variable {X : Cx}
def fVar (i : Nat) : FE := fun env x => match env[i]? with
  | some (.va d) => some (d, x)
  | _ => none
def fBor (i : Nat) : FE := fun env x => match env[i]? with
  | some (.va d) => some (d, x)
  | some (.ow d) => some (d.d, x)
  | _ => none
def fC (d : D) : FE := fun _ x => some (d, x)
theorem FSt.at {ω : World} {K : PySem.W.Frag} {g : FG} {O : Addr → Prop} {σ : L2.St} {H : Hp} {env : FEn} {x : FRow} (S : FSt ω K g O σ H env x) {i : Nat} {e : FSl} (h : env[i]? = some e) : ∃ s, σ[i]? = some s ∧ SlOk K g O H s e := by
  have hi : i < σ.length := by rw [S.len]; exact (List.getElem?_eq_some_iff.mp h).1
  exact ⟨_, List.getElem?_eq_getElem hi, S.sl i _ e (List.getElem?_eq_getElem hi) h⟩
theorem se_var (i : Nat) {n : Str} {pos : Pos} (hN : X.N[i]? = some n := by rfl) (hv : Vis X.env.scope n := by first | exact Or.inl rfl | exact Or.inr (Or.inl rfl) | exact Or.inr (Or.inr rfl)) (hd : (n == ("__debug__" : Str)) = false := by decide)
    (hcd : (n == ("__classdict__" : Str)) = false := by decide) : SE X (.Name n pos) (fVar i) := by
  refine ⟨PEw (pe_var hN hv hd hcd) fun σ H Q h => ?_⟩
  obtain ⟨g, O, env, x, d, x', S, e, k⟩ := h
  unfold fVar at e
  split at e
  · rename_i q
    cases e
    obtain ⟨s, e1, q1⟩ := S.at q
    cases q1 with
    | va r => exact ⟨_, e1, k _ _ S (Le.refl _ _) r⟩
  · cases e
theorem sb_var (i : Nat) {n : Str} {pos : Pos} (hN : X.N[i]? = some n := by rfl) (hv : Vis X.env.scope n := by first | exact Or.inl rfl | exact Or.inr (Or.inl rfl) | exact Or.inr (Or.inr rfl)) (hd : (n == ("__debug__" : Str)) = false := by decide)
    (hcd : (n == ("__classdict__" : Str)) = false := by decide) : SB X (.Name n pos) (fBor i) := by
  refine ⟨PEw (pe_var hN hv hd hcd) fun σ H Q h => ?_⟩
  obtain ⟨g, O, env, x, d, x', S, e, k⟩ := h
  unfold fBor at e
  split at e
  · rename_i q
    cases e
    obtain ⟨s, e1, q1⟩ := S.at q
    cases q1 with
    | va r => exact ⟨_, e1, k _ _ S (Le.refl _ _) (.inl r)⟩
  · rename_i q
    cases e
    obtain ⟨s, e1, q1⟩ := S.at q
    cases q1 with
    | ow a b c r => exact ⟨_, e1, k _ _ S (Le.refl _ _) (.inr ⟨_, _, rfl, rfl, a, c, r⟩)⟩
  · cases e
theorem sb_of {e : Expr} {f : FE} (h : SE X e f) : SB X e f := by
  refine ⟨PEw h.out fun σ H Q h => ?_⟩
  obtain ⟨g, O, env, x, d, x', S, e, k⟩ := h
  exact ⟨g, O, env, x, d, x', S, e, fun v H' S' l r => k v H' S' l (.inl r)⟩
theorem se_c {e : Expr} {v : V} {d : D} (h : PE X e (tC v)) (r : ∀ K O H, Rp K O H v d) : SE X e (fC d) := by
  refine ⟨PEw h fun σ H Q h => ?_⟩
  obtain ⟨g, O, env, x, d, x', S, e, k⟩ := h
  cases e
  exact k _ _ S (Le.refl _ _) (r _ _ _)
theorem se_int {i j pos} : SE X (.Constant (.int i) j pos) (fC (.int i)) := se_c pe_int fun _ _ _ => .int i
theorem se_bl {i j pos} : SE X (.Constant (.bool i) j pos) (fC (.bool i)) := se_c pe_bl fun _ _ _ => .bl i
theorem se_str {i j pos} : SE X (.Constant (.str i) j pos) (fC (.str i)) := se_c pe_str fun _ _ _ => .str i
theorem se_non {j pos} : SE X (.Constant .none j pos) (fC .none) := se_c pe_non fun _ _ _ => .non
/-- a constant of the module -/
theorem se_glob {n : Str} {v : V} {d : D} {u : Value} {pos : Pos} (hg : Gl X n) (hm : X.mg n = some u) (r : RelV v u) (q : ∀ K O H, Rp K O H v d) (hd : (n == ("__debug__" : Str)) = false := by decide) : SE X (.Name n pos) (fC d) := se_c (pe_glob hg hm r hd) q

/-! ### argument lists, displays -/
def aNil : FA := fun _ x => some ([], x)
def aCons (f : FE) (t : FA) : FA := fun env x => match f env x with
  | some (d, x1) => match t env x1 with
    | some (ds, x2) => some (d :: ds, x2)
    | none => none
  | none => none
theorem sa_nil : SA X [] aNil := by
  refine ⟨PAw pa_nil fun σ H Q h => ?_⟩
  obtain ⟨g, O, env, x, d, x', S, e, k⟩ := h
  cases e
  exact k _ _ S (Le.refl _ _) .nil
theorem sa_cons {e : Expr} {es : List Expr} {f : FE} {t : FA} (h : SE X e f) (ht : SA X es t) (hs : starEach (e :: es) X.env = (false, eval e X.env) :: starEach es X.env := by rfl) : SA X (e :: es) (aCons f t) := by
  refine ⟨PAw (pa_cons h.out ht.out hs) fun σ H Q h => ?_⟩
  obtain ⟨g, O, env, x, d, x', S, e, k⟩ := h
  unfold aCons at e
  split at e
  · rename_i d1 x1 e1
    split at e
    · rename_i ds x2 e2
      cases e
      refine ⟨g, O, env, x, d1, x1, S, e1, fun v H1 S1 l1 r1 => ?_⟩
      refine ⟨g, O, env, x1, ds, x', S1, e2, fun vs H2 S2 l2 r2 => ?_⟩
      exact k _ _ S2 (l1.trans l2) (.cons (r1.move (S1.keep l2) .refl) r2)
    · cases e
  · cases e
def maxLen : Nat := 1000000
theorem maxLen_ok {n : Nat} (h : n ≤ maxLen) : n ≤ sizeLine := Nat.le_trans h (by rw [sizeLine_eq]; decide)
def fTup (t : FA) : FE := fun env x => match t env x with
  | some (ds, x1) => if ds.length ≤ maxLen then some (.tuple ds, x1) else none
  | none => none
def fLst (t : FA) : FE := fun env x => match t env x with
  | some (ds, x1) => if ds.length ≤ maxLen then some (.list ds, x1) else none
  | none => none
theorem se_tup {es : List Expr} {f : FA} {k : Nat} {pos : Pos} (h : SA X es f) : SE X (.Tuple es k pos) (fTup f) := by
  refine ⟨PEw (pe_tup h.out) fun σ H Q h => ?_⟩
  obtain ⟨g, O, env, x, d, x', S, e, k⟩ := h
  unfold fTup at e
  split at e
  · rename_i ds x1 e1
    split at e
    · rename_i hl
      cases e
      refine ⟨g, O, env, x, ds, x', S, e1, fun v H1 S1 l1 r1 => ⟨by rw [r1.length]; exact maxLen_ok hl, fun p hp => ?_⟩⟩
      have sm := same_upd (o := .tup v) hp
      exact k _ _ (S1.same sm) (l1.trans (.of sm)) (.tup (S1.notO hp) upd_same (r1.move (.of sm) .refl))
    · cases e
  · cases e
theorem se_lst {es : List Expr} {f : FA} {pos : Pos} (h : SA X es f) : SE X (.List es pos) (fLst f) := by
  refine ⟨PEw (pe_lst h.out) fun σ H Q h => ?_⟩
  obtain ⟨g, O, env, x, d, x', S, e, k⟩ := h
  unfold fLst at e
  split at e
  · rename_i ds x1 e1
    split at e
    · rename_i hl
      cases e
      refine ⟨g, O, env, x, ds, x', S, e1, fun v H1 S1 l1 r1 => ⟨by rw [r1.length]; exact maxLen_ok hl, fun p hp => ?_⟩⟩
      have sm := same_upd (o := .lst v) hp
      exact k _ _ (S1.same sm) (l1.trans (.of sm)) (.lst (S1.notO hp) upd_same (r1.move (.of sm) .refl))
    · cases e
  · cases e
end
end RT

namespace RT
open PySem PySem.Spec PyProof.Rows L2
section
variable {ω : World} {K : PySem.W.Frag} {g : FG} {O O' : Addr → Prop} {σ : L2.St} {H H' : Hp} {env : FEn} {x x' : FRow}
theorem RpB.step {v : V} {d : D} (S : FSt ω K g O σ H env x) (h : Le g H H') (r : RpB K g O H v d) : RpB K g O H' v d := by
  rcases r with r | ⟨a, w, rfl, rfl, ha, hr, z⟩
  · exact .inl (r.move (S.keep h) .refl)
  · exact .inr ⟨a, w, rfl, rfl, ha, hr, z.move (fun o q t => h a o hr q t) (S.keep h) .refl⟩
theorem Rp.step {v : V} {d : D} (S : FSt ω K g O σ H env x) (h : Le g H H') (r : Rp K O H v d) : Rp K O H' v d := r.move (S.keep h) .refl
theorem RpA.step {v : List V} {d : List D} (S : FSt ω K g O σ H env x) (h : Le g H H') (r : RpA K O H v d) : RpA K O H' v d := r.move (S.keep h) .refl
/-- what is borrowed and no list, no dict is plain -/
theorem RpB.tup {v : V} {ds : List D} (r : RpB K g O H v (.tuple ds)) : Rp K O H v (.tuple ds) := by
  rcases r with r | ⟨a, w, rfl, e, ha, hr, z⟩
  · exact r
  · cases w <;> cases e
theorem RpB.int {v : V} {i : Int} (r : RpB K g O H v (.int i)) : v = .int i := by
  rcases r with r | ⟨a, w, rfl, e, ha, hr, z⟩
  · cases r; rfl
  · cases w <;> cases e
theorem RpB.bl {v : V} {i : Bool} (r : RpB K g O H v (.bool i)) : v = .bl i := by
  rcases r with r | ⟨a, w, rfl, e, ha, hr, z⟩
  · cases r; rfl
  · cases w <;> cases e
theorem RpB.str {v : V} {i : Str} (r : RpB K g O H v (.str i)) : v = .str i := by
  rcases r with r | ⟨a, w, rfl, e, ha, hr, z⟩
  · cases r; rfl
  · cases w <;> cases e
theorem RpB.non {v : V} (r : RpB K g O H v .none) : v = .non := by
  rcases r with r | ⟨a, w, rfl, e, ha, hr, z⟩
  · cases r; rfl
  · cases w <;> cases e
theorem RpB.lst {v : V} {ds : List D} (r : RpB K g O H v (.list ds)) : ∃ a xs, v = .ref a ∧ H a = some (.lst xs) ∧ RpA K O H xs ds := by
  rcases r with r | ⟨a, w, rfl, e, ha, hr, z⟩
  · cases r with
    | lst n e r => exact ⟨_, _, rfl, e, r⟩
  · cases w with
    | lst ds' =>
      cases e
      obtain ⟨xs, e, r⟩ := z
      exact ⟨_, _, rfl, e, r⟩
    | _ => cases e
theorem RpB.seq {v : V} {ds : List D} {d : D} (h : d = .list ds ∨ d = .tuple ds) (r : RpB K g O H v d) : ∃ a xs, v = .ref a ∧ (SqL K H a xs ∨ SqT K H a xs) ∧ RpA K O H xs ds := by
  rcases h with rfl | rfl
  · obtain ⟨a, xs, e, q, r⟩ := r.lst
    exact ⟨a, xs, e, .inl (.of q), r⟩
  · have r := r.tup
    obtain ⟨a, rfl⟩ := r.isRef
    obtain ⟨xs, q, r⟩ := r.seqT
    exact ⟨a, xs, rfl, .inr q, r⟩
theorem RpB.dct {v : V} {ds : List (D × D)} (r : RpB K g O H v (.dict ds)) : ∃ a kvs, v = .ref a ∧ L2.Rd H a (.dK kvs) ∧ RpK K O H kvs ds := by
  rcases r with r | ⟨a, w, rfl, e, ha, hr, z⟩
  · cases r with
    | dK n e r => exact ⟨_, _, rfl, e, r⟩
  · cases w with
    | dk ds' =>
      cases e
      obtain ⟨kvs, e, r⟩ := z
      exact ⟨_, _, rfl, .inl e, r⟩
    | _ => cases e
theorem RpB.dcT {v : V} {ds : List (D × D)} (r : RpB K g O H v (.dictT ds)) : ∃ a kvs, v = .ref a ∧ H a = some (.dT kvs) ∧ RpT K O H kvs ds := by
  rcases r with r | ⟨a, w, rfl, e, ha, hr, z⟩
  · cases r with
    | dT n e r => exact ⟨_, _, rfl, e, r⟩
  · cases w with
    | dt ds' =>
      cases e
      obtain ⟨kvs, e, r⟩ := z
      exact ⟨_, _, rfl, e, r⟩
    | _ => cases e
theorem RpB.dp {v : V} {d : D} (r : RpB K g O H v d) (s : shapedD d = true) : Dp K H v d.py := by
  have s := SeqAt.canLay_of_shaped s
  rcases r with r | ⟨a, w, rfl, e, ha, hr, z⟩
  · exact r.dp s
  · cases w with
    | lst ds' =>
      subst e
      obtain ⟨xs, e, r⟩ := z
      simp only [OwD.d, D.py] at s ⊢
      exact .lst (.of e) (r.dp (by simpa [PyData.canLay0] using s))
    | _ => subst e; simp [OwD.d, D.py, PyData.canLay0] at s
/-- two expressions in a row -/
theorem two {fa fb : FE} {R : V → V → Hp → Prop} {d e : D} {x1 x2 : FRow} (S : FSt ω K g O σ H env x) (h1 : fa env x = some (d, x1)) (h2 : fb env x1 = some (e, x2))
    (k : ∀ v w H', FSt ω K g O σ H' env x2 → Le g H H' → RpB K g O H' v d → RpB K g O H' w e → R v w H') : tB ω K fa σ H fun v H1 => tB ω K fb σ H1 fun w H2 => R v w H2 :=
  ⟨g, O, env, x, d, x1, S, h1, fun v H1 S1 l1 r1 => ⟨g, O, env, x1, e, x2, S1, h2, fun w H2 S2 l2 r2 => k v w H2 S2 (l1.trans l2) (r1.step S1 l2) r2⟩⟩
end

/-! ### operators -/
def OpD (X : Cx) (fop : Value → Value → Sem Value) (gd : D → D → Option D) : Prop :=
  OpR X fop fun v w H Q => ∃ g O σ env x d e r, FSt X.w X.K g O σ H env x ∧ RpB X.K g O H v d ∧ RpB X.K g O H w e ∧ gd d e = some r ∧ ∀ u H', Same H H' → Rp X.K O H' u r → Q u H'
def fBin (gd : D → D → Option D) (fa fb : FE) : FE := fun env x => match fa env x with
  | some (d, x1) => match fb env x1 with
    | some (e, x2) => match gd d e with
      | some r => some (r, x2)
      | none => none
    | none => none
  | none => none
theorem fBin_some {gd : D → D → Option D} {fa fb : FE} {env : FEn} {x : FRow} {p : D × FRow} (h : fBin gd fa fb env x = some p) : ∃ d x1 e r, fa env x = some (d, x1) ∧ fb env x1 = some (e, p.2) ∧ gd d e = some r ∧ r = p.1 := by
  unfold fBin at h
  split at h
  · split at h
    · split at h
      · cases h
        exact ⟨_, _, _, _, by assumption, by assumption, by assumption, rfl⟩
      · cases h
    · cases h
  · cases h
section
variable {X : Cx} {a b : Expr} {fa fb : FE} {pos : Pos}
theorem se_op {op : Operator} {gd : D → D → Option D} (ho : OpD X (binaryOp op) gd) (ha : SB X a fa) (hb : SB X b fb) : SE X (.BinOp a op b pos) (fBin gd fa fb) := by
  refine ⟨PEw (pe_op ho ha.out hb.out) fun σ H Q h => ?_⟩
  obtain ⟨g, O, env, x, d, x', S, e, k⟩ := h
  obtain ⟨da, x1, db, r, e1, e2, e3, rfl⟩ := fBin_some e
  exact two S e1 e2 fun v w H' S' l rv rw => ⟨g, O, σ, env, x', da, db, _, S', rv, rw, e3, fun u H2 sm q => k u H2 (S'.same sm) (l.trans (.of sm)) q⟩
theorem se_cmp {op : CmpOp} {gd : D → D → Option D} (ho : OpD X (compareOp op) gd) (ha : SB X a fa) (hb : SB X b fb) (hm : behindInMarks op b = false) : SE X (.Compare a [op] [b] pos) (fBin gd fa fb) := by
  refine ⟨PEw (pe_cmpR ho ha.out hb.out hm) fun σ H Q h => ?_⟩
  obtain ⟨g, O, env, x, d, x', S, e, k⟩ := h
  obtain ⟨da, x1, db, r, e1, e2, e3, rfl⟩ := fBin_some e
  exact two S e1 e2 fun v w H' S' l rv rw => ⟨g, O, σ, env, x', da, db, _, S', rv, rw, e3, fun u H2 sm q => k u H2 (S'.same sm) (l.trans (.of sm)) q⟩
/-- a test whose value is a bool -/
def fTst (f : FE) : FT := fun env x => match f env x with
  | some (.bool b, x1) => some (b, x1)
  | _ => none
theorem fTst_some {f : FE} {env : FEn} {x : FRow} {p : Bool × FRow} (h : fTst f env x = some p) : f env x = some (.bool p.1, p.2) := by
  unfold fTst at h
  split at h
  · cases h; assumption
  · cases h
theorem st_cmp {op : CmpOp} {gd : D → D → Option D} (ho : OpD X (compareOp op) gd) (ha : SB X a fa) (hb : SB X b fb) (hm : behindInMarks op b = false) : ST X (.Compare a [op] [b] pos) (fTst (fBin gd fa fb)) := by
  refine ⟨PTw (pt_cmpR ho ha.out hb.out hm) fun σ H Q h => ?_⟩
  obtain ⟨g, O, env, x, d, x', S, e, k⟩ := h
  obtain ⟨da, x1, db, r, e1, e2, e3, e4⟩ := fBin_some (fTst_some e)
  refine two S e1 e2 fun v w H' S' l rv rw => ⟨g, O, σ, env, x', da, db, _, S', rv, rw, e3, fun u H2 sm q => ?_⟩
  simp only at e4
  rw [e4] at q
  cases q
  exact ⟨_, rfl, k H2 (S'.same sm) (l.trans (.of sm))⟩
def gOr (g1 g2 : D → D → Option D) : D → D → Option D := fun d e => match g1 d e with
  | some r => some r
  | none => g2 d e
theorem OpD.or {f : Value → Value → Sem Value} {g1 g2 : D → D → Option D} (h1 : OpD X f g1) (h2 : OpD X f g2) : OpD X f (gOr g1 g2) := by
  intro pins s σ H x y v u Q I rx ry h
  obtain ⟨g, O, σ', env, x, d, e, r, S, rv, rw, q, k⟩ := h
  unfold gOr at q
  split at q
  · rename_i r' q'
    cases q
    exact h1 pins s σ H _ _ v u Q I rx ry ⟨g, O, σ', env, x, d, e, r, S, rv, rw, q', k⟩
  · exact h2 pins s σ H _ _ v u Q I rx ry ⟨g, O, σ', env, x, d, e, r, S, rv, rw, q, k⟩
/-- from a rule of the layer -/
theorem OpD.by {f : Value → Value → Sem Value} {r : R2} {gd : D → D → Option D} (h : OpR X f r)
    (q : ∀ g O σ env x d e z H v w Q, FSt X.w X.K g O σ H env x → RpB X.K g O H v d → RpB X.K g O H w e → gd d e = some z → (∀ u H', Same H H' → Rp X.K O H' u z → Q u H') → r v w H Q) : OpD X f gd := by
  intro pins s σ H x y v u Q I rx ry h2
  obtain ⟨g, O, σ', env, x, d, e, r, S, rv, rw, q', k⟩ := h2
  exact h pins s σ H _ _ v u Q I rx ry (q _ _ _ _ _ _ _ _ _ _ _ _ S rv rw q' k)
def gI (p : Int → Int → Bool) (c : Int → Int → D) : D → D → Option D
  | .int i, .int j => if p i j then some (c i j) else none
  | _, _ => none
theorem gI_some {p : Int → Int → Bool} {c : Int → Int → D} {d e z : D} (h : gI p c d e = some z) : ∃ i j, d = .int i ∧ e = .int j ∧ p i j = true ∧ z = c i j := by
  unfold gI at h
  split at h
  · split at h
    · cases h; exact ⟨_, _, rfl, rfl, by assumption, rfl⟩
    · cases h
  · cases h
abbrev yes2 : Int → Int → Bool := fun _ _ => true
theorem od_int0 {f : Value → Value → Sem Value} {c : Int → Int → Int} (h : OpR X f (rI0 fun i j => .int (c i j))) : OpD X f (gI yes2 fun i j => .int (c i j)) := by
  refine OpD.by h fun g O σ env x d e z H v w Q S rv rw q k => ?_
  obtain ⟨i, j, rfl, rfl, _, rfl⟩ := gI_some q
  exact ⟨i, j, rv.int, rw.int, k _ _ (Same.refl _) (.int _)⟩
theorem od_bool0 {f : Value → Value → Sem Value} {c : Int → Int → Bool} (h : OpR X f (rI0 fun i j => .bl (c i j))) : OpD X f (gI yes2 fun i j => .bool (c i j)) := by
  refine OpD.by h fun g O σ env x d e z H v w Q S rv rw q k => ?_
  obtain ⟨i, j, rfl, rfl, _, rfl⟩ := gI_some q
  exact ⟨i, j, rv.int, rw.int, k _ _ (Same.refl _) (.bl _)⟩
theorem od_intC {f : Value → Value → Sem Value} {C : Int → Int → Prop} {p : Int → Int → Bool} {c : Int → Int → Int} (h : OpR X f (rI C fun i j => .int (c i j))) (hp : ∀ i j, p i j = true → C i j) : OpD X f (gI p fun i j => .int (c i j)) := by
  refine OpD.by h fun g O σ env x d e z H v w Q S rv rw q k => ?_
  obtain ⟨i, j, rfl, rfl, hq, rfl⟩ := gI_some q
  exact ⟨i, j, rv.int, rw.int, hp _ _ hq, k _ _ (Same.refl _) (.int _)⟩
abbrev gAddI := gI yes2 fun i j => .int (i + j)
abbrev gSubI := gI yes2 fun i j => .int (i - j)
def pMul (i j : Int) : Bool := decide (-(2 ^ 64) < i ∧ i < 2 ^ 64) || decide (-(2 ^ 64) < j ∧ j < 2 ^ 64)
def pDiv (_ j : Int) : Bool := decide (0 < j ∧ j < 1073741824)
def pMod (_ j : Int) : Bool := decide (0 < j)
def pPow (i j : Int) : Bool := decide (0 ≤ j ∧ j ≤ 1000000 ∧ i.natAbs < 2 ^ 64)
abbrev gMulI := gI pMul fun i j => .int (i * j)
abbrev gDivI := gI pDiv fun i j => .int (i / j)
abbrev gModI := gI pMod fun i j => .int (i % j)
abbrev gPowI := gI pPow fun i j => .int (i ^ j.toNat)
theorem od_add : OpD X (binaryOp .Add) gAddI := od_int0 op_add
theorem od_sub : OpD X (binaryOp .Sub) gSubI := od_int0 op_sub
theorem od_mul : OpD X (binaryOp .Mult) gMulI := od_intC op_mul fun i j h => by
  rcases Bool.or_eq_true_iff.mp h with h | h
  · exact .inl (of_decide_eq_true h)
  · exact .inr (of_decide_eq_true h)
theorem od_div : OpD X (binaryOp .FloorDiv) gDivI := od_intC op_fdiv fun i j h => (show 0 < j ∧ j < 1073741824 from of_decide_eq_true h)
theorem od_mod : OpD X (binaryOp .Mod) gModI := od_intC op_mod fun i j h => of_decide_eq_true h
theorem od_pow : OpD X (binaryOp .Pow) gPowI := od_intC op_pow fun i j h => (show 0 ≤ j ∧ j ≤ 1000000 ∧ i.natAbs < 2 ^ 64 from of_decide_eq_true h)
theorem od_lt : OpD X (compareOp .Lt) (gI yes2 fun i j => .bool (decide (i < j))) := od_bool0 op_lt
theorem od_le : OpD X (compareOp .LtE) (gI yes2 fun i j => .bool (decide (i ≤ j))) := od_bool0 op_le
theorem od_gt : OpD X (compareOp .Gt) (gI yes2 fun i j => .bool (decide (j < i))) := od_bool0 op_gt
theorem od_ge : OpD X (compareOp .GtE) (gI yes2 fun i j => .bool (decide (j ≤ i))) := od_bool0 op_ge
/-- tuple + tuple, list + list -/
def gCatT : D → D → Option D
  | .tuple xs, .tuple ys => if xs.length + ys.length ≤ maxLen then some (.tuple (xs ++ ys)) else none
  | _, _ => none
def gCatL : D → D → Option D
  | .list xs, .list ys => if xs.length + ys.length ≤ maxLen then some (.list (xs ++ ys)) else none
  | _, _ => none
theorem od_catT : OpD X (binaryOp .Add) gCatT := by
  refine OpD.by op_catA fun g O σ env x d e z H v w Q S rv rw q k => ?_
  unfold gCatT at q
  split at q
  · rename_i ds es
    split at q
    · rename_i hl
      cases q
      have rv := rv.tup
      have rw := rw.tup
      obtain ⟨p1, rfl⟩ := rv.isRef
      obtain ⟨p2, rfl⟩ := rw.isRef
      obtain ⟨xs, q1, r1⟩ := rv.seqT
      obtain ⟨ys, q2, r2⟩ := rw.seqT
      refine ⟨p1, p2, xs, ys, rfl, rfl, q1, q2, by rw [r1.length, r2.length]; exact maxLen_ok hl, fun e => ?_, fun _ e => ?_, fun _ _ p hp => ?_⟩
      · subst e
        cases r1
        exact k _ _ (Same.refl _) rw
      · subst e
        cases r2
        rw [List.append_nil] at k
        exact k _ _ (Same.refl _) rv
      · have sm := same_upd (o := .tup (xs ++ ys)) hp
        exact k _ _ sm (.tup (S.notO hp) upd_same ((r1.app r2).move (.of sm) .refl))
    · cases q
  · cases q
theorem od_catL : OpD X (binaryOp .Add) gCatL := by
  refine OpD.by op_cat fun g O σ env x d e z H v w Q S rv rw q k => ?_
  unfold gCatL at q
  split at q
  · rename_i ds es
    split at q
    · rename_i hl
      cases q
      obtain ⟨p1, xs, rfl, q1, r1⟩ := rv.lst
      obtain ⟨p2, ys, rfl, q2, r2⟩ := rw.lst
      refine ⟨p1, p2, xs, ys, rfl, rfl, q1, q2, by rw [r1.length, r2.length]; exact maxLen_ok hl, fun p hp => ?_⟩
      have sm := same_upd (o := .lst (xs ++ ys)) hp
      exact k _ _ sm (.lst (S.notO hp) upd_same ((r1.app r2).move (.of sm) .refl))
    · cases q
  · cases q
theorem RpA.rep {K : PySem.W.Frag} {O : Addr → Prop} {H : Hp} {xs : List V} {ds : List D} (r : RpA K O H xs ds) : ∀ k : Nat, RpA K O H (List.replicate k xs).flatten (List.replicate k ds).flatten
  | 0 => .nil
  | k + 1 => by
    rw [List.replicate_succ, List.replicate_succ, List.flatten_cons, List.flatten_cons]
    exact r.app (RpA.rep r k)
/-- list * int -/
def gRepL : D → D → Option D
  | .list xs, .int k => if 0 ≤ k ∧ k ≤ 1000 ∧ xs.length ≤ 1000 then some (.list (List.replicate k.toNat xs).flatten) else none
  | _, _ => none
theorem od_repL : OpD X (binaryOp .Mult) gRepL := by
  refine OpD.by op_rep fun g O σ env x d e z H v w Q S rv rw q k => ?_
  unfold gRepL at q
  split at q
  · rename_i ds j
    split at q
    · rename_i hl
      cases q
      obtain ⟨p1, xs, rfl, q1, r1⟩ := rv.lst
      have lx : xs.length * j.toNat ≤ 1000000 := by
        rw [r1.length]
        exact Nat.le_trans (Nat.mul_le_mul hl.2.2 (show j.toNat ≤ 1000 by omega)) (by decide)
      refine ⟨p1, j, xs, rfl, rw.int, q1, by omega, by omega, maxLen_ok lx, fun p hp => ?_⟩
      have sm := same_upd (o := .lst (List.replicate j.toNat xs).flatten) hp
      exact k _ _ sm (.lst (S.notO hp) upd_same ((r1.rep _).move (.of sm) .refl))
    · cases q
  · cases q
/-- ==, != of data -/
def gEq : D → D → Option D := fun d e => if shapedD d && shapedD e then some (.bool (eqD d e)) else none
def gNe : D → D → Option D := fun d e => if shapedD d && shapedD e then some (.bool (!eqD d e)) else none
theorem od_eq (hu : X.A.units + 64 < cLine) : OpD X (compareOp .Eq) gEq := by
  refine OpD.by (op_eqD hu) fun g O σ env x d e z H v w Q S rv rw q k => ?_
  unfold gEq at q
  split at q
  · rename_i h
    cases q
    obtain ⟨h1, h2⟩ := Bool.and_eq_true_iff.mp h
    exact ⟨d.py, e.py, rv.dp h1, rw.dp h2, h1, h2, k _ _ (Same.refl _) (.bl _)⟩
  · cases q
theorem od_ne (hu : X.A.units + 64 < cLine) : OpD X (compareOp .NotEq) gNe := by
  refine OpD.by (op_neD hu) fun g O σ env x d e z H v w Q S rv rw q k => ?_
  unfold gNe at q
  split at q
  · rename_i h
    cases q
    obtain ⟨h1, h2⟩ := Bool.and_eq_true_iff.mp h
    exact ⟨d.py, e.py, rv.dp h1, rw.dp h2, h1, h2, k _ _ (Same.refl _) (.bl _)⟩
  · cases q
/-- is None -/
def isNoneD : D → Bool
  | .none => true
  | _ => false
def gIsN : D → D → Option D := fun d e => match e with
  | .none => some (.bool (isNoneD d))
  | _ => none
def gNotN : D → D → Option D := fun d e => match e with
  | .none => some (.bool (!isNoneD d))
  | _ => none
theorem isNone_ok {K : PySem.W.Frag} {g : FG} {O : Addr → Prop} {H : Hp} {v : V} {d : D} (r : RpB K g O H v d) : decide (v = .non) = isNoneD d := by
  rcases r with r | ⟨a, w, rfl, rfl, ha, hr, z⟩
  · cases r <;> first | rfl | simp [isNoneD]
  · cases w <;> simp [isNoneD, OwD.d]
theorem od_isN : OpD X (compareOp .Is) gIsN := by
  refine OpD.by op_isN fun g O σ env x d e z H v w Q S rv rw q k => ?_
  unfold gIsN at q
  split at q
  · cases q
    refine ⟨rw.non, ?_⟩
    rw [isNone_ok rv]
    exact k _ _ (Same.refl _) (.bl _)
  · cases q
theorem od_notN : OpD X (compareOp .IsNot) gNotN := by
  refine OpD.by op_notN fun g O σ env x d e z H v w Q S rv rw q k => ?_
  unfold gNotN at q
  split at q
  · cases q
    refine ⟨rw.non, ?_⟩
    rw [isNone_ok rv]
    exact k _ _ (Same.refl _) (.bl _)
  · cases q
theorem any_py (d : D) : ∀ ds : List D, ((pyAll ds).any fun z => PyData.eqv z d.py) = ds.any fun z => eqD z d
  | [] => by simp only [pyAll, List.any_nil]
  | x :: xs => by simp only [pyAll, List.any_cons, any_py d xs, eqD]
/-- x in list -/
def gIn : D → D → Option D := fun d e => match e with
  | .list ds => if shapedD d && shapedD (.list ds) then some (.bool (ds.any fun z => eqD z d)) else none
  | _ => none
def gNotIn : D → D → Option D := fun d e => match e with
  | .list ds => if shapedD d && shapedD (.list ds) then some (.bool (!ds.any fun z => eqD z d)) else none
  | _ => none
theorem od_in (hu : X.A.units + 65 < cLine) : OpD X (compareOp .In) gIn := by
  refine OpD.by (op_inD hu) fun g O σ env x d e z H v w Q S rv rw q k => ?_
  unfold gIn at q
  split at q
  · rename_i ds
    split at q
    · rename_i h
      cases q
      obtain ⟨h1, h2⟩ := Bool.and_eq_true_iff.mp h
      have h3 := rw.dp h2
      simp only [shapedD, D.py] at h1 h2 h3
      refine ⟨d.py, pyAll ds, rv.dp h1, h3, h1, h2, ?_⟩
      rw [any_py]
      exact k _ _ (Same.refl _) (.bl _)
    · cases q
  · cases q
theorem od_notIn (hu : X.A.units + 65 < cLine) : OpD X (compareOp .NotIn) gNotIn := by
  refine OpD.by (op_notInD hu) fun g O σ env x d e z H v w Q S rv rw q k => ?_
  unfold gNotIn at q
  split at q
  · rename_i ds
    split at q
    · rename_i h
      cases q
      obtain ⟨h1, h2⟩ := Bool.and_eq_true_iff.mp h
      have h3 := rw.dp h2
      simp only [shapedD, D.py] at h1 h2 h3
      refine ⟨d.py, pyAll ds, rv.dp h1, h3, h1, h2, ?_⟩
      rw [any_py]
      exact k _ _ (Same.refl _) (.bl _)
    · cases q
  · cases q
end
end RT

namespace RT
open PySem PySem.Spec PyProof.Rows L2
section
variable {X : Cx} {a b c e : Expr} {es : List Expr} {fa fb fc f : FE} {pos : Pos}

/-! ### chains, and, or, not, if -/
def fChain (g1 g2 : D → D → Option D) (fa fb fc : FE) : FE := fun env x => match fa env x with
  | some (d, x1) => match fb env x1 with
    | some (e, x2) => match g1 d e with
      | some (.bool true) => match fc env x2 with
        | some (h, x3) => match g2 e h with
          | some (.bool r) => some (.bool r, x3)
          | _ => none
        | none => none
      | some (.bool false) => some (.bool false, x2)
      | _ => none
    | none => none
  | none => none
theorem se_chain {op op' : CmpOp} {g1 g2 : D → D → Option D} (ho : OpD X (compareOp op) g1) (ho' : OpD X (compareOp op') g2) (ha : SB X a fa) (hb : SB X b fb) (hc : SB X c fc)
    (hm : lastMarks [op, op'] [b, c] = false := by with_unfolding_all rfl) : SE X (.Compare a [op, op'] [b, c] pos) (fChain g1 g2 fa fb fc) := by
  refine ⟨PEw (pe_chain ho ho' ha.out hb.out hc.out hm) fun σ H Q h => ?_⟩
  obtain ⟨g, O, env, x, d, x', S, e, k⟩ := h
  unfold fChain at e
  split at e
  · rename_i da x1 e1
    split at e
    · rename_i db x2 e2
      split at e
      · rename_i e3
        split at e
        · rename_i dc x3 e4
          split at e
          · rename_i r e5
            cases e
            refine two S e1 e2 fun v w H' S' l rv rw => ⟨g, O, σ, env, x2, da, db, _, S', rv, rw, e3, fun u H2 sm q => ?_⟩
            cases q
            refine ⟨true, rfl, ?_⟩
            refine iteT ?_
            refine ⟨g, O, env, x2, dc, x', S'.same sm, e4, fun y H3 S3 l3 r3 => ⟨g, O, σ, env, x', db, dc, _, S3, RpB.step (S'.same sm) l3 (RpB.step S' (.of sm) rw), r3, e5, fun u H4 sm4 q => k u H4 (S3.same sm4) (((l.trans (.of sm)).trans l3).trans (.of sm4)) q⟩⟩
          · cases e
        · cases e
      · rename_i e3
        cases e
        refine two S e1 e2 fun v w H' S' l rv rw => ⟨g, O, σ, env, x', da, db, _, S', rv, rw, e3, fun u H2 sm q => ?_⟩
        cases q
        refine ⟨false, rfl, ?_⟩
        refine iteF ?_
        exact k _ _ (S'.same sm) (l.trans (.of sm)) (.bl false)
      · cases e
    · cases e
  · cases e
theorem st_chain {op op' : CmpOp} {g1 g2 : D → D → Option D} (ho : OpD X (compareOp op) g1) (ho' : OpD X (compareOp op') g2) (ha : SB X a fa) (hb : SB X b fb) (hc : SB X c fc)
    (hm : lastMarks [op, op'] [b, c] = false := by with_unfolding_all rfl) : ST X (.Compare a [op, op'] [b, c] pos) (fTst (fChain g1 g2 fa fb fc)) := by
  refine ⟨PTw (pt_chain ho ho' ha.out hb.out hc.out hm) fun σ H Q h => ?_⟩
  obtain ⟨g, O, env, x, d, x', S, e, k⟩ := h
  have e := fTst_some e
  unfold fChain at e
  split at e
  · rename_i da x1 e1
    split at e
    · rename_i db x2 e2
      split at e
      · rename_i e3
        split at e
        · rename_i dc x3 e4
          split at e
          · rename_i r e5
            cases e
            refine two S e1 e2 fun v w H' S' l rv rw => ⟨g, O, σ, env, x2, da, db, _, S', rv, rw, e3, fun u H2 sm q => ?_⟩
            cases q
            refine ⟨true, rfl, ?_⟩
            refine iteT ?_
            refine ⟨g, O, env, x2, dc, x', S'.same sm, e4, fun y H3 S3 l3 r3 => ⟨g, O, σ, env, x', db, dc, _, S3, RpB.step (S'.same sm) l3 (RpB.step S' (.of sm) rw), r3, e5, fun u H4 sm4 q => ?_⟩⟩
            cases q
            exact ⟨_, rfl, k H4 (S3.same sm4) (((l.trans (.of sm)).trans l3).trans (.of sm4))⟩
          · cases e
        · cases e
      · rename_i e3
        cases e
        refine two S e1 e2 fun v w H' S' l rv rw => ⟨g, O, σ, env, x', da, db, _, S', rv, rw, e3, fun u H2 sm q => ?_⟩
        cases q
        refine ⟨false, rfl, ?_⟩
        refine iteF ?_
        exact ⟨_, rfl, k _ (S'.same sm) (l.trans (.of sm))⟩
      · cases e
    · cases e
  · cases e
def fAnd (fa fb : FE) : FE := fun env x => match fa env x with
  | some (.bool true, x1) => fb env x1
  | some (.bool false, x1) => some (.bool false, x1)
  | _ => none
def fOr (fa fb : FE) : FE := fun env x => match fa env x with
  | some (.bool true, x1) => some (.bool true, x1)
  | some (.bool false, x1) => fb env x1
  | _ => none
theorem se_one {op : BoolOp} (h : SE X a fa) : SE X (.BoolOp op [a] pos) fa := ⟨pe_one h.out⟩
theorem se_and {rest : List Expr} (ha : SE X a fa) (hb : SE X (.BoolOp .And (b :: rest) pos) fb) : SE X (.BoolOp .And (a :: b :: rest) pos) (fAnd fa fb) := by
  refine ⟨PEw (pe_and ha.out hb.out) fun σ H Q h => ?_⟩
  obtain ⟨g, O, env, x, d, x', S, e, k⟩ := h
  unfold fAnd at e
  split at e
  · rename_i x1 e1
    refine ⟨g, O, env, x, _, x1, S, e1, fun v H1 S1 l1 r1 => ?_⟩
    cases r1
    refine ⟨true, rfl, ?_⟩
    refine iteT ?_
    exact ⟨g, O, env, x1, d, x', S1, e, fun v H2 S2 l2 r2 => k v H2 S2 (l1.trans l2) r2⟩
  · rename_i x1 e1
    cases e
    refine ⟨g, O, env, x, _, x', S, e1, fun v H1 S1 l1 r1 => ?_⟩
    cases r1
    refine ⟨false, rfl, ?_⟩
    refine iteF ?_
    exact k _ _ S1 l1 (.bl false)
  · cases e
theorem se_or {rest : List Expr} (ha : SE X a fa) (hb : SE X (.BoolOp .Or (b :: rest) pos) fb) : SE X (.BoolOp .Or (a :: b :: rest) pos) (fOr fa fb) := by
  refine ⟨PEw (pe_or ha.out hb.out) fun σ H Q h => ?_⟩
  obtain ⟨g, O, env, x, d, x', S, e, k⟩ := h
  unfold fOr at e
  split at e
  · rename_i x1 e1
    cases e
    refine ⟨g, O, env, x, _, x', S, e1, fun v H1 S1 l1 r1 => ?_⟩
    cases r1
    refine ⟨true, rfl, ?_⟩
    refine iteT ?_
    exact k _ _ S1 l1 (.bl true)
  · rename_i x1 e1
    refine ⟨g, O, env, x, _, x1, S, e1, fun v H1 S1 l1 r1 => ?_⟩
    cases r1
    refine ⟨false, rfl, ?_⟩
    refine iteF ?_
    exact ⟨g, O, env, x1, d, x', S1, e, fun v H2 S2 l2 r2 => k v H2 S2 (l1.trans l2) r2⟩
  · cases e
def fNot (fa : FE) : FE := fun env x => match fa env x with
  | some (.bool b, x1) => some (.bool (!b), x1)
  | _ => none
theorem se_not (ha : SE X a fa) : SE X (.UnaryOp .Not a pos) (fNot fa) := by
  refine ⟨PEw (pe_not ha.out) fun σ H Q h => ?_⟩
  obtain ⟨g, O, env, x, d, x', S, e, k⟩ := h
  unfold fNot at e
  split at e
  · rename_i bb x1 e1
    cases e
    refine ⟨g, O, env, x, _, x', S, e1, fun v H1 S1 l1 r1 => ?_⟩
    cases r1
    exact ⟨bb, rfl, k _ _ S1 l1 (.bl _)⟩
  · cases e
def fNeg (fa : FE) : FE := fun env x => match fa env x with
  | some (.int i, x1) => some (.int (-i), x1)
  | _ => none
theorem se_neg (ha : SE X a fa) : SE X (.UnaryOp .USub a pos) (fNeg fa) := by
  refine ⟨PEw (pe_un un_neg ha.out) fun σ H Q h => ?_⟩
  obtain ⟨g, O, env, x, d, x', S, e, k⟩ := h
  unfold fNeg at e
  split at e
  · rename_i i x1 e1
    cases e
    refine ⟨g, O, env, x, _, x', S, e1, fun v H1 S1 l1 r1 => ?_⟩
    cases r1
    exact ⟨i, rfl, k _ _ S1 l1 (.int _)⟩
  · cases e

/-! ### tests -/
structure SW (X : Cx) (e : Expr) (f : FT) : Prop where
  out : PW X e (tT X.w X.K f)
theorem PWw {t t' : TT} (h : PW X e t) (q : ∀ σ H Q, t' σ H Q → t σ H Q) : PW X e t' := ⟨fun wh pins s σ H Q I z => h.run wh pins s σ H Q I (q _ _ _ z)⟩
theorem st_w {f : FT} (h : SW X e f) : ST X e f := ⟨h.out.pt⟩
variable {ta tb tc : FT}
def tAndF (fa fb : FT) : FT := fun env x => match fa env x with
  | some (true, x1) => fb env x1
  | some (false, x1) => some (false, x1)
  | none => none
def tOrF (fa fb : FT) : FT := fun env x => match fa env x with
  | some (true, x1) => some (true, x1)
  | some (false, x1) => fb env x1
  | none => none
theorem sw_and1 (h : ST X a ta) : SW X (.BoolOp .And [a] pos) ta := ⟨pw_and1 h.out⟩
theorem sw_or1 (h : ST X a ta) : SW X (.BoolOp .Or [a] pos) ta := ⟨pw_or1 h.out⟩
theorem sw_and {rest : List Expr} (ha : ST X a ta) (hb : SW X (.BoolOp .And (b :: rest) pos) tb) : SW X (.BoolOp .And (a :: b :: rest) pos) (tAndF ta tb) := by
  refine ⟨PWw (pw_and ha.out hb.out) fun σ H Q h => ?_⟩
  obtain ⟨g, O, env, x, d, x', S, e, k⟩ := h
  unfold tAndF at e
  split at e
  · rename_i x1 e1
    refine ⟨g, O, env, x, _, x1, S, e1, fun H1 S1 l1 => ?_⟩
    refine iteT ?_
    exact ⟨g, O, env, x1, d, x', S1, e, fun H2 S2 l2 => k H2 S2 (l1.trans l2)⟩
  · rename_i x1 e1
    cases e
    refine ⟨g, O, env, x, _, x', S, e1, fun H1 S1 l1 => ?_⟩
    refine iteF ?_
    exact k _ S1 l1
  · cases e
theorem sw_or {rest : List Expr} (ha : ST X a ta) (hb : SW X (.BoolOp .Or (b :: rest) pos) tb) : SW X (.BoolOp .Or (a :: b :: rest) pos) (tOrF ta tb) := by
  refine ⟨PWw (pw_or ha.out hb.out) fun σ H Q h => ?_⟩
  obtain ⟨g, O, env, x, d, x', S, e, k⟩ := h
  unfold tOrF at e
  split at e
  · rename_i x1 e1
    cases e
    refine ⟨g, O, env, x, _, x', S, e1, fun H1 S1 l1 => ?_⟩
    refine iteT ?_
    exact k _ S1 l1
  · rename_i x1 e1
    refine ⟨g, O, env, x, _, x1, S, e1, fun H1 S1 l1 => ?_⟩
    refine iteF ?_
    exact ⟨g, O, env, x1, d, x', S1, e, fun H2 S2 l2 => k H2 S2 (l1.trans l2)⟩
  · cases e
def tNotF (fa : FT) : FT := fun env x => match fa env x with
  | some (b, x1) => some (!b, x1)
  | none => none
theorem st_not (ha : ST X a ta) : ST X (.UnaryOp .Not a pos) (tNotF ta) := by
  refine ⟨PTw (pt_not ha.out) fun σ H Q h => ?_⟩
  obtain ⟨g, O, env, x, d, x', S, e, k⟩ := h
  unfold tNotF at e
  split at e
  · rename_i bb x1 e1
    cases e
    exact ⟨g, O, env, x, _, x', S, e1, fun H1 S1 l1 => k H1 S1 l1⟩
  · cases e
/-- truth of a value -/
def truD : D → Option Bool
  | .none => some false
  | .bool b => some b
  | .int i => some (i != 0)
  | .list ds => some (!ds.isEmpty)
  | .tuple ds => some (!ds.isEmpty)
  | _ => none
def fTru (f : FE) : FT := fun env x => match f env x with
  | some (d, x1) => match truD d with
    | some b => some (b, x1)
    | none => none
  | none => none
theorem RpA.emp {K : PySem.W.Frag} {O : Addr → Prop} {H : Hp} {xs : List V} {ds : List D} (r : RpA K O H xs ds) : xs.isEmpty = ds.isEmpty := by cases r <;> rfl
theorem st_tru (ha : SB X a fa) (he : ∀ whole, isTrue a X.env whole = (do let v ← whole; standAt a.pos; holding [v] (truthy v)) := by intro _; rfl) : ST X a (fTru fa) := by
  refine ⟨PTw (pt_truth ha.out he) fun σ H Q h => ?_⟩
  obtain ⟨g, O, env, x, d, x', S, e, k⟩ := h
  unfold fTru at e
  split at e
  · rename_i dd x1 e1
    split at e
    · rename_i bb e2
      cases e
      refine ⟨g, O, env, x, _, x', S, e1, fun v H1 S1 l1 r1 => ⟨d, ?_, k H1 S1 l1⟩⟩
      unfold truD at e2
      split at e2
      · cases e2; rw [r1.non]; exact rfl
      · cases e2; rw [r1.bl]; exact rfl
      · cases e2; rw [r1.int]; exact rfl
      · cases e2
        obtain ⟨p, xs, rfl, q, r⟩ := r1.lst
        exact .inl ⟨xs, .of q, by rw [r.emp]⟩
      · cases e2
        have r := r1.tup
        obtain ⟨p, rfl⟩ := r.isRef
        obtain ⟨xs, q, r⟩ := r.seqT
        exact .inr (.inl ⟨xs, q, by rw [r.emp]⟩)
      · cases e2
    · cases e
  · cases e
def fIf (t : FT) (fa fb : FE) : FE := fun env x => match t env x with
  | some (true, x1) => fa env x1
  | some (false, x1) => fb env x1
  | none => none
theorem se_if {t : FT} (hc : ST X c t) (ha : SE X a fa) (hb : SE X b fb) : SE X (.IfExp c a b pos) (fIf t fa fb) := by
  refine ⟨PEw (pe_ifExp hc.out ha.out hb.out) fun σ H Q h => ?_⟩
  obtain ⟨g, O, env, x, d, x', S, e, k⟩ := h
  unfold fIf at e
  split at e
  · rename_i x1 e1
    refine ⟨g, O, env, x, _, x1, S, e1, fun H1 S1 l1 => ?_⟩
    refine iteT ?_
    exact ⟨g, O, env, x1, d, x', S1, e, fun v H2 S2 l2 r2 => k v H2 S2 (l1.trans l2) r2⟩
  · rename_i x1 e1
    refine ⟨g, O, env, x, _, x1, S, e1, fun H1 S1 l1 => ?_⟩
    refine iteF ?_
    exact ⟨g, O, env, x1, d, x', S1, e, fun v H2 S2 l2 r2 => k v H2 S2 (l1.trans l2) r2⟩
  · cases e

/-! ### subscripts, slices -/
def gIx : D → D → Option D
  | .list ds, .int i => atI ds i
  | .tuple ds, .int i => atI ds i
  | _, _ => none
theorem atI_rp {K : PySem.W.Frag} {O : Addr → Prop} {H : Hp} {xs : List V} {ds : List D} {i : Int} {d : D} (r : RpA K O H xs ds) (h : atI ds i = some d) : ∃ v, atI xs i = some v ∧ Rp K O H v d := by
  unfold atI at h ⊢
  rw [r.length]
  cases q : ixN ds.length i with
  | none => rw [q] at h; cases h
  | some j =>
    rw [q] at h
    exact r.get h
def rIxLT (K : PySem.W.Frag) : R2 := fun x y H Q => rIxL K x y H Q ∨ rIxT K x y H Q
theorem se_ix (ha : SB X a fa) (hb : SB X b fb) (hs : PlainIx b := by exact fun _ _ => rfl) : SE X (.Subscript a b pos) (fBin gIx fa fb) := by
  refine ⟨PEw (pe_ix (ix_list.or ix_tup) ha.out hb.out hs) fun σ H Q h => ?_⟩
  obtain ⟨g, O, env, x, d, x', S, e, k⟩ := h
  obtain ⟨da, x1, db, r, e1, e2, e3, rfl⟩ := fBin_some e
  refine two S e1 e2 fun v w H' S' l rv rw => ?_
  unfold gIx at e3
  split at e3
  · obtain ⟨p, xs, rfl, q, r⟩ := rv.lst
    obtain ⟨u, e4, r4⟩ := atI_rp r e3
    exact .inl ⟨p, xs, _, u, rfl, rw.int, .of q, e4, k _ _ S' l r4⟩
  · have r := rv.tup
    obtain ⟨p, rfl⟩ := r.isRef
    obtain ⟨xs, q, r⟩ := r.seqT
    obtain ⟨u, e4, r4⟩ := atI_rp r e3
    exact .inr ⟨p, xs, _, u, rfl, rw.int, q, e4, k _ _ S' l r4⟩
  · cases e3
abbrev FO := FEn → FRow → Option (Option Int × FRow)
def tO (ω : World) (K : PySem.W.Frag) (f : FO) : TO := fun σ H Q => ∃ g O env x d x', FSt ω K g O σ H env x ∧ f env x = some (d, x') ∧ ∀ H', FSt ω K g O σ H' env x' → Le g H H' → Q d H'
structure SO (X : Cx) (o : Option Expr) (f : FO) : Prop where
  out : PO X o (tO X.w X.K f)
theorem POw {o : Option Expr} {t t' : TO} (h : PO X o t) (q : ∀ σ H Q, t' σ H Q → t σ H Q) : PO X o t' := ⟨fun pins s σ H Q I z => h.run pins s σ H Q I (q _ _ _ z)⟩
def oNone : FO := fun _ x => some (none, x)
def oSome (f : FE) : FO := fun env x => match f env x with
  | some (.int i, x1) => some (some i, x1)
  | _ => none
theorem so_none : SO X none oNone := by
  refine ⟨POw po_none fun σ H Q h => ?_⟩
  obtain ⟨g, O, env, x, d, x', S, e, k⟩ := h
  cases e
  exact k _ S (Le.refl _ _)
theorem so_some (ha : SE X a fa) : SO X (some a) (oSome fa) := by
  refine ⟨POw (po_some ha.out) fun σ H Q h => ?_⟩
  obtain ⟨g, O, env, x, d, x', S, e, k⟩ := h
  unfold oSome at e
  split at e
  · rename_i i x1 e1
    cases e
    refine ⟨g, O, env, x, _, x', S, e1, fun v H1 S1 l1 r1 => ?_⟩
    cases r1
    exact ⟨i, rfl, k _ S1 l1⟩
  · cases e
def cutL {α : Type} (xs : List α) (lo hi : Option Int) : List α := (xs.drop (HT.sIx xs.length 0 lo)).take (HT.sIx xs.length xs.length hi - HT.sIx xs.length 0 lo)
def gSl : D → Option Int → Option Int → Option D
  | .list ds, lo, hi => some (.list (cutL ds lo hi))
  | .tuple ds, lo, hi => some (.tuple (cutL ds lo hi))
  | _, _, _ => none
theorem cut_rp {K : PySem.W.Frag} {O : Addr → Prop} {H : Hp} {xs : List V} {ds : List D} {lo hi : Option Int} (r : RpA K O H xs ds) : RpA K O H (cutV xs lo hi) (cutL ds lo hi) := by
  unfold cutV cutL
  rw [r.length]
  exact (r.drop _).take _
def fSl (f : FE) (o p : FO) : FE := fun env x => match f env x with
  | some (d, x1) => match o env x1 with
    | some (lo, x2) => match p env x2 with
      | some (hi, x3) => match gSl d lo hi with
        | some r => some (r, x3)
        | none => none
      | none => none
    | none => none
  | none => none
theorem cut_all {α : Type} {xs : List α} {lo hi : Option Int} (h : HT.sIx xs.length 0 lo = 0 ∧ HT.sIx xs.length xs.length hi = xs.length) : cutL xs lo hi = xs := by
  unfold cutL
  rw [h.1, h.2]
  simp
theorem se_sl {lo hi : Option Expr} {fl fh : FO} {p2 : Pos} (ha : SB X a fa) (hl : SO X lo fl) (hh : SO X hi fh) : SE X (.Subscript a (.Slice lo hi none p2) pos) (fSl fa fl fh) := by
  refine ⟨PEw (pe_slice (sl_list.or sl_tupA) ha.out hl.out hh.out) fun σ H Q h => ?_⟩
  obtain ⟨g, O, env, x, d, x', S, e, k⟩ := h
  unfold fSl at e
  split at e
  · rename_i da x1 e1
    split at e
    · rename_i lo x2 e2
      split at e
      · rename_i hi x3 e3
        split at e
        · rename_i r e4
          cases e
          refine ⟨g, O, env, x, da, x1, S, e1, fun v H1 S1 l1 r1 => ⟨g, O, env, x1, lo, x2, S1, e2, fun H2 S2 l2 => ⟨g, O, env, x2, hi, x', S2, e3, fun H3 S3 l3 => ?_⟩⟩⟩
          have rv := RpB.step S2 l3 (RpB.step S1 l2 r1)
          unfold gSl at e4
          split at e4
          · rename_i ds
            cases e4
            obtain ⟨p, xs, rfl, q, r⟩ := rv.lst
            refine .inl ⟨p, xs, rfl, .of q, fun p hp => ?_⟩
            have sm := same_upd (o := .lst (cutV xs lo hi)) hp
            exact k _ _ (S3.same sm) (((l1.trans l2).trans l3).trans (.of sm)) (.lst (S3.notO hp) upd_same ((cut_rp r).move (.of sm) .refl))
          · rename_i ds
            cases e4
            have r := rv.tup
            obtain ⟨p, rfl⟩ := r.isRef
            obtain ⟨xs, q, r2⟩ := r.seqT
            refine .inr ⟨p, xs, rfl, q, fun hh => ?_, fun _ p hp => ?_⟩
            · rw [r2.length] at hh
              rw [cut_all hh] at k
              exact k _ _ S3 ((l1.trans l2).trans l3) r
            · have sm := same_upd (o := .tup (cutV xs lo hi)) hp
              exact k _ _ (S3.same sm) (((l1.trans l2).trans l3).trans (.of sm)) (.tup (S3.notO hp) upd_same ((cut_rp r2).move (.of sm) .refl))
          · cases e4
        · cases e
      · cases e
    · cases e
  · cases e
end
end RT

namespace RT
open PySem PySem.Spec PyProof.Rows L2
/-! ### stores -/
section
variable {ω : World} {K : PySem.W.Frag} {g : FG} {O O' : Addr → Prop} {σ : L2.St} {H H' : Hp} {env : FEn} {x x' : FRow}
theorem set_at {α : Type} {l : List α} {i j : Nat} {a b : α} (h : (l.set i a)[j]? = some b) : (i = j ∧ b = a) ∨ (i ≠ j ∧ l[j]? = some b) := by
  by_cases e : i = j
  · subst e
    by_cases hl : i < l.length
    · rw [List.getElem?_set_self hl] at h
      exact .inl ⟨rfl, (Option.some.inj h).symm⟩
    · rw [List.getElem?_eq_none (by simpa using hl)] at h
      cases h
  · rw [List.getElem?_set_ne e] at h
    exact .inr ⟨e, h⟩
theorem OwAt.mut {a : Addr} {d : OwD} (h : OwAt K O H a d) : MutC (H a) := by
  cases d <;> (obtain ⟨xs, e, _⟩ := h; rw [e]; exact True.intro)
theorem OwAt.some {a : Addr} {d : OwD} (h : OwAt K O H a d) : ∃ o, H a = some o := by
  have z := h.mut
  cases q : H a with
  | none => rw [q] at z; exact z.elim
  | some o => exact ⟨o, rfl⟩
theorem OwAt.live {a p : Addr} {d : OwD} (h : OwAt K O H a d) (n : Gone H p) : a ≠ p := fun z => by
  obtain ⟨u, q⟩ := h.some
  have m := h.mut
  rw [q] at m
  rw [z] at q
  exact n.no q (mut_nt m)
/-- a slot gets a value -/
theorem FSt.setv (S : FSt ω K g O σ H env x) {v : V} {e : FSl} (i : Nat) (r : SlOk K g O H (some v) e) (n : ∀ d, e = .ow d → ∃ p, v = .ref p ∧ ∀ (j : Nat) d' b, env[j]? = some (.ow d') → σ[j]? = some (some (.ref b)) → b ≠ p) : FSt ω K g O (σ.set i (some v)) H (env.set i e) x where
  sub := S.sub
  new := S.new
  dom := S.dom
  le := S.le
  row := S.row
  len := by rw [List.length_set, List.length_set]; exact S.len
  sl := fun j s e' h1 h2 => by
    rcases set_at h1 with ⟨e1, e2⟩ | ⟨e1, e2⟩
    · rcases set_at h2 with ⟨e3, e4⟩ | ⟨e3, e4⟩
      · subst e2; subst e4; exact r
      · exact absurd e1 e3
    · rcases set_at h2 with ⟨e3, e4⟩ | ⟨e3, e4⟩
      · exact absurd e3 e1
      · exact S.sl j s e' e2 e4
  dis := fun j k d d' a b ne h1 h2 h3 h4 => by
    rcases set_at h1 with ⟨e1, e2⟩ | ⟨e1, e2⟩
    · rcases set_at h3 with ⟨e3, e4⟩ | ⟨e3, e4⟩
      · rcases set_at h2 with ⟨e5, e6⟩ | ⟨e5, e6⟩
        · exact absurd (e1.symm.trans e5) ne
        · rcases set_at h4 with ⟨e7, e8⟩ | ⟨e7, e8⟩
          · exact absurd e7 e5
          · obtain ⟨p, e9, q⟩ := n d e2.symm
            have e4' : V.ref a = v := Option.some.inj e4
            rw [e9] at e4'
            cases e4'
            exact fun z => q k d' b e6 e8 z.symm
      · exact absurd e1 e3
    · rcases set_at h3 with ⟨e3, e4⟩ | ⟨e3, e4⟩
      · exact absurd e3 e1
      · rcases set_at h2 with ⟨e5, e6⟩ | ⟨e5, e6⟩
        · rcases set_at h4 with ⟨e7, e8⟩ | ⟨e7, e8⟩
          · obtain ⟨p, e9, q⟩ := n d' e6.symm
            have e8' : V.ref b = v := Option.some.inj e8
            rw [e9] at e8'
            cases e8'
            exact q j d a e2 e4
          · exact absurd e5 e7
        · rcases set_at h4 with ⟨e7, e8⟩ | ⟨e7, e8⟩
          · exact absurd e7 e5
          · exact S.dis j k d d' a b ne e2 e6 e4 e8
  gh := S.gh
  tb := S.tb
  tk := S.tk
  nt0 := S.nt0
  ww := S.ww
/-- an owned thing changes -/
theorem FSt.put (S : FSt ω K g O σ H env x) {i : Nat} {a : Addr} {d d' : OwD} {o : HO} (h1 : env[i]? = some (.ow d)) (h2 : σ[i]? = some (some (.ref a))) (mu : MutC (some o)) (w : OwAt K O (upd H a o) a d') :
    FSt ω K g O σ (upd H a o) (env.set i (.ow d')) x := by
  have q := S.sl i _ _ h2 h1
  obtain ⟨oa, noa, nr⟩ : O a ∧ ¬ g.O0 a ∧ g.R ≠ some a := by
    cases q with
    | ow p q r s => exact ⟨p, q, r⟩
  have n0 : g.H0 a = none := by
    rcases S.new a oa with z | z
    · exact absurd z noa
    · exact z
  have kp : Keep O H (upd H a o) := fun b u n e _ => by
    rw [upd_ne (show b ≠ a from fun z => n (z ▸ oa))]
    exact e
  have ma := S.dom a oa
  have owa : OwAt K O H a d := by
    cases q with
    | ow p q r s => exact s
  obtain ⟨oo, hoo⟩ := owa.some
  refine ⟨S.sub, S.new, fun b hb => ?_, fun b u hR e tn => ?_, fun r e => ?_, by rw [List.length_set]; exact S.len, fun j s e' e1 e2 => ?_, fun j k e e' b c ne e1 e2 e3 e4 => ?_, fun p hp => (S.gh p hp).move kp .refl, tabs_upd S.tb hoo (mut_nt (by rw [← hoo]; exact ma)) (notC_ow owa hoo), S.tk, S.nt0, S.ww⟩
  · by_cases z : b = a
    · subst z; rw [upd_same]; exact mu
    · rw [upd_ne z]; exact S.dom b hb
  · have z : b ≠ a := fun z => by rw [z, n0] at e; cases e
    rw [upd_ne z]
    exact S.le b u hR e tn
  · obtain ⟨q1, q2, a0, q3, q4⟩ := S.row r e
    refine ⟨q1, q2, a0, ?_, ?_⟩
    · rw [upd_ne (show r ≠ a from fun z => nr (z ▸ e))]; exact q3
    · rcases q4 with ⟨u, q4⟩ | q4
      · refine .inl ⟨u, ?_⟩
        rw [upd_ne (show a0 ≠ a from fun z => by rw [← z, q4] at ma; exact ma)]
        exact q4
      · exact .inr q4
  · rcases set_at e2 with ⟨z1, z2⟩ | ⟨z1, z2⟩
    · subst z1
      subst z2
      rw [h2] at e1
      cases e1
      exact .ow oa noa nr w
    · cases S.sl j s e' e1 z2 with
      | no => exact .no _
      | va r => exact .va (r.move kp .refl)
      | @ow b d2 p q r t => exact .ow p q r (t.move (fun u eu _ => by rw [upd_ne (S.dis j i _ _ _ _ (Ne.symm z1) z2 h1 e1 h2)]; exact eu) kp .refl)
      | rw e => exact .rw e
      | @da b ds p q r t =>
        have nb : b ≠ a := fun z => by
          subst z
          obtain ⟨_, e, _⟩ := t
          have t0 := S.sl i _ _ h2 h1
          cases t0 with
          | ow _ _ _ t0 => cases d <;> (obtain ⟨_, e0, _⟩ := t0; rw [e] at e0; cases e0)
        exact .da p q r (t.mv (fun u eu _ => by rw [upd_ne nb]; exact eu) fun _ _ r => r.move kp .refl)
      | fn n e r => exact .fn n (kp _ _ n e rfl) fun p hp => (r p hp).move kp .refl
  · have at1 : ∀ {j : Nat} {d2 : OwD}, (env.set i (.ow d'))[j]? = some (.ow d2) → ∃ d3, env[j]? = some (.ow d3) := fun {j d2} z => by
      rcases set_at z with ⟨z1, z2⟩ | ⟨z1, z2⟩
      · subst z1; exact ⟨_, h1⟩
      · exact ⟨_, z2⟩
    obtain ⟨d3, e1⟩ := at1 e1
    obtain ⟨d4, e2⟩ := at1 e2
    exact S.dis j k _ _ b c ne e1 e2 e3 e4
/-- an owned thing is given up: it does not change any more -/
theorem FSt.freeze (S : FSt ω K g O σ H env x) {i : Nat} {a : Addr} {d : OwD} (h1 : env[i]? = some (.ow d)) (h2 : σ[i]? = some (some (.ref a))) :
    FSt ω K g (fun b => O b ∧ b ≠ a) σ H (env.set i (.va d.d)) x := by
  have q := S.sl i _ _ h2 h1
  obtain ⟨oa, noa, nr, w⟩ : O a ∧ ¬ g.O0 a ∧ g.R ≠ some a ∧ OwAt K O H a d := by
    cases q with
    | ow p q r s => exact ⟨p, q, r, s⟩
  have wd : Wid O (fun b => O b ∧ b ≠ a) H := fun b z => .inl z.1
  have kp : Keep O H H := fun _ _ _ e _ => e
  refine ⟨fun b z => ⟨S.sub b z, fun e => noa (e ▸ z)⟩, fun b z => S.new b z.1, fun b z => S.dom b z.1, S.le, S.row, by rw [List.length_set]; exact S.len, fun j s e' e1 e2 => ?_, fun j k e e' b c ne e1 e2 e3 e4 => ?_, fun p hp => (S.gh p hp).move kp wd, S.tb, S.tk, S.nt0, S.ww⟩
  · rcases set_at e2 with ⟨z1, z2⟩ | ⟨z1, z2⟩
    · subst z1
      subst z2
      rw [h2] at e1
      cases e1
      refine .va ?_
      cases d with
      | lst ds => obtain ⟨xs, e, r⟩ := w; exact .lst (fun z => z.2 rfl) e (r.move kp wd)
      | dk ds => obtain ⟨xs, e, r⟩ := w; exact .dK (fun z => z.2 rfl) (.inl e) (r.move kp wd)
      | dt ds => obtain ⟨xs, e, r⟩ := w; exact .dT (fun z => z.2 rfl) e (r.move kp wd)
    · cases S.sl j s e' e1 z2 with
      | no => exact .no _
      | va r => exact .va (r.move kp wd)
      | @ow b d2 p q r t => exact .ow ⟨p, S.dis j i _ _ _ _ (Ne.symm z1) z2 h1 e1 h2⟩ q r (t.move (fun u eu _ => eu) kp wd)
      | rw e => exact .rw e
      | @da b ds p q r t =>
        have nb : b ≠ a := fun z => by
          subst z
          obtain ⟨_, e, _⟩ := t
          cases d <;> (obtain ⟨_, e0, _⟩ := w; rw [e] at e0; cases e0)
        exact .da ⟨p, nb⟩ q r (t.mv (fun _ e _ => e) fun _ _ r => r.move kp wd)
      | fn n e r => exact .fn (fun z => n z.1) e fun p hp => (r p hp).move kp wd
  · rcases set_at e1 with ⟨z1, z2⟩ | ⟨z1, z2⟩
    · cases z2
    · rcases set_at e2 with ⟨z3, z4⟩ | ⟨z3, z4⟩
      · cases z4
      · exact S.dis j k _ _ b c ne z2 z4 e3 e4
/-- a new thing, owned -/
def oAdd (O : Addr → Prop) (p : Addr) : Addr → Prop := fun a => O a ∨ a = p
theorem wid_add {p : Addr} (h : H p = none) : Wid O (oAdd O p) H := fun a z => z.elim .inl fun e => .inr (e ▸ .of h)
theorem FSt.own (S : FSt ω K g O σ H env x) {p : Addr} {o : HO} (hp : H p = none) (mu : MutC (some o)) : FSt ω K g (oAdd O p) σ (upd H p o) env x := by
  have sm := same_upd (o := o) hp
  have S1 := S.same sm
  have h0 : g.H0 p = none := by
    cases q : g.H0 p with
    | none => rfl
    | some u =>
      by_cases hR : g.R = some p
      · have z := S.dom p (S.sub p (S.row p hR).1)
        rw [hp] at z
        exact z.elim
      · rw [S.le p u hR q (S.nt0 _ _ q)] at hp; cases hp
  have wd : Wid O (oAdd O p) H := wid_add hp
  refine ⟨fun a h => .inl (S.sub a h), fun a h => ?_, fun a h => ?_, S1.le, S1.row, S.len, fun j s e' e1 e2 => ?_, S.dis, fun q hq => (S.gh q hq).move (.of sm) wd, S1.tb, S1.tk, S1.nt0, S1.ww⟩
  · rcases h with h | rfl
    · exact S.new a h
    · exact .inr h0
  · rcases h with h | rfl
    · exact S1.dom a h
    · rw [upd_same]; exact mu
  · cases S.sl j s e' e1 e2 with
    | no => exact .no _
    | va r => exact .va (r.move (.of sm) wd)
    | ow p q r t => exact .ow (.inl p) q r (t.move (fun u eu _ => sm _ _ eu) (.of sm) wd)
    | rw e => exact .rw e
    | da p q r t => exact .da (.inl p) q r (t.mv (fun u eu _ => sm _ _ eu) fun _ _ r => r.move (.of sm) wd)
    | fn n e r => exact .fn (wd.no n e) (sm _ _ e) fun p hp => (r p hp).move (.of sm) wd
theorem FSt.newp (S : FSt ω K g O σ H env x) {p : Addr} (hp : H p = none) : ¬ g.O0 p ∧ g.R ≠ some p := by
  refine ⟨fun z => S.notO hp (S.sub p z), fun z => S.notO hp (S.sub p (S.row p z).1)⟩
end

/-! ### what is stored in a name: a value, or a new owned thing -/
abbrev FX := FEn → FRow → Option (FSl × FRow)
def tX (ω : World) (K : PySem.W.Frag) (f : FX) : TE := fun σ H Q => ∃ g O env x sl x', FSt ω K g O σ H env x ∧ f env x = some (sl, x') ∧
  ∀ O' v H', FSt ω K g O' σ H' env x' → Le g H H' → Wid O O' H → (∀ a, O a → O' a) → SlOk K g O' H' (some v) sl → (∀ d, sl = .ow d → ∃ p, v = .ref p ∧ Gone H p) → Q v H'
structure SX (X : Cx) (e : Expr) (f : FX) : Prop where
  out : PE X e (tX X.w X.K f)
section
variable {X : Cx} {a b c e : Expr} {es : List Expr} {fa fb fc f : FE} {pos : Pos}
def xVal (f : FE) : FX := fun env x => match f env x with
  | some (d, x1) => some (.va d, x1)
  | none => none
theorem sx_of (h : SE X e f) : SX X e (xVal f) := by
  refine ⟨PEw h.out fun σ H Q h => ?_⟩
  obtain ⟨g, O, env, x, sl, x', S, e, k⟩ := h
  unfold xVal at e
  split at e
  · rename_i d x1 e1
    cases e
    exact ⟨g, O, env, x, d, x', S, e1, fun v H1 S1 l1 r1 => k O v H1 S1 l1 .refl (fun _ h => h) (.va r1) fun d z => by cases z⟩
  · cases e
def xLst (t : FA) : FX := fun env x => match t env x with
  | some (ds, x1) => if ds.length ≤ maxLen then some (.ow (.lst ds), x1) else none
  | none => none
theorem Le.gone {g : FG} {H H' : Hp} {p : Addr} {ω : World} {K : PySem.W.Frag} {O' : Addr → Prop} {σ' : L2.St} {env' : FEn} {x' : FRow} (l : Le g H H') (h : Gone H' p) (S' : FSt ω K g O' σ' H' env' x') : Gone H p := fun u q => by
  cases t : isNT u with
  | false => rfl
  | true =>
    by_cases hR : g.R = some p
    · exact absurd (S'.sub p (S'.row p hR).1) fun z => by
        have d := S'.dom p z
        cases q' : H' p with
        | none => rw [q'] at d; exact d
        | some o => exact h.no q' (mut_nt (by rw [← q']; exact d))
    · exact (h.no (l p u hR q t) t).elim
theorem sx_lst {t : FA} (h : SA X es t) : SX X (.List es pos) (xLst t) := by
  refine ⟨PEw (pe_lst h.out) fun σ H Q h => ?_⟩
  obtain ⟨g, O, env, x, d, x', S, e, k⟩ := h
  unfold xLst at e
  split at e
  · rename_i ds x1 e1
    split at e
    · rename_i hl
      cases e
      refine ⟨g, O, env, x, ds, x', S, e1, fun v H1 S1 l1 r1 => ⟨by rw [r1.length]; exact maxLen_ok hl, fun p hp => ?_⟩⟩
      have sm := same_upd (o := .lst v) hp
      have n1 := S1.newp hp
      have S2 := S1.own (o := .lst v) hp True.intro
      have hp0 := Le.gone l1 (.of hp) S1
      refine k _ _ _ S2 (l1.trans (.of sm)) (fun a z => z.elim .inl fun e => .inr (e ▸ hp0)) (fun a z => .inl z) (.ow (.inr rfl) n1.1 n1.2 ⟨v, upd_same, r1.move (.of sm) (wid_add hp)⟩) fun d z => ⟨p, rfl, hp0⟩
    · cases e
  · cases e
def xNew (d : OwD) : FX := fun _ x => some (.ow d, x)
theorem sx_dK : SX X (.Dict [] [] pos) (xNew (.dk [])) := by
  refine ⟨PEw pe_dnewK fun σ H Q h => ?_⟩
  obtain ⟨g, O, env, x, d, x', S, e, k⟩ := h
  cases e
  intro p hp
  have n1 := S.newp hp
  exact k _ _ _ (S.own (o := .dK []) hp True.intro) (.of (same_upd hp)) (wid_add hp) (fun a z => .inl z) (.ow (.inr rfl) n1.1 n1.2 ⟨[], upd_same, .nil⟩) fun d z => ⟨p, rfl, .of hp⟩
theorem sx_dT : SX X (.Dict [] [] pos) (xNew (.dt [])) := by
  refine ⟨PEw pe_dnewT fun σ H Q h => ?_⟩
  obtain ⟨g, O, env, x, d, x', S, e, k⟩ := h
  cases e
  intro p hp
  have n1 := S.newp hp
  exact k _ _ _ (S.own (o := .dT []) hp True.intro) (.of (same_upd hp)) (wid_add hp) (fun a z => .inl z) (.ow (.inr rfl) n1.1 n1.2 ⟨[], upd_same, .nil⟩) fun d z => ⟨p, rfl, .of hp⟩
/-- {k: v} -/
def dKey : D → Option L2.Key
  | .int i => some (.inl i)
  | .str s => some (.inr s)
  | _ => none
theorem dKey_ok {d : D} {k : L2.Key} (h : dKey d = some k) : d = keyD k := by
  cases d <;> simp [dKey] at h <;> subst h <;> rfl
theorem dKey_rp {K : PySem.W.Frag} {O : Addr → Prop} {H : Hp} {v : V} {d : D} {k : L2.Key} (h : dKey d = some k) (r : Rp K O H v d) : v = kV k := by
  cases d <;> simp [dKey] at h <;> subst h <;> cases r <;> rfl
def xDict1 (fk fv : FE) : FX := fun env x => match fk env x with
  | some (k, x1) => match dKey k with
    | some _ => match fv env x1 with
      | some (v, x2) => some (.ow (.dk [(k, v)]), x2)
      | none => none
    | none => none
  | none => none
theorem sx_d1 {fk fv : FE} (hk : SE X a fk) (hv : SE X b fv) : SX X (.Dict [some a] [b] pos) (xDict1 fk fv) := by
  refine ⟨PEw (pe_disp (pps_cons hk.out hv.out pps_nil) (by rfl) (by rfl) (fun z => by cases z) (by show 1 ≤ 15; decide)) fun σ H Q h => ?_⟩
  obtain ⟨g, O, env, x, d, x', S, e, k⟩ := h
  unfold xDict1 at e
  split at e
  · rename_i dk x1 e1
    split at e
    · rename_i kk e2
      split at e
      · rename_i dv x2 e3
        cases e
        intro p hp
        have n1 := S.newp hp
        have S0 := S.own (o := .dK []) hp True.intro
        refine ⟨g, oAdd O p, env, x, dk, x1, S0, e1, fun v1 H1 S1 l1 r1 => ⟨g, oAdd O p, env, x1, dv, x', S1, e3, fun v2 H2 S2 l2 r2 => ?_⟩⟩
        have hb : (upd H p (.dK [])) p = some (.dK []) := upd_same
        have h2 : H2 p = some (.dK []) := l2 p _ n1.2 (l1 p _ n1.2 hb rfl) rfl
        refine ⟨h2, [(kk, v2)], by rw [dKey_rp e2 r1]; rfl, by simp, ?_⟩
        have S3 : FSt X.w X.K g (oAdd O p) σ (upd H2 p (.dK (mergeK [] [(kk, v2)]))) env x' := by
          refine ⟨S2.sub, S2.new, fun a ha => ?_, fun c u hR e tn => ?_, fun r e => ?_, S2.len, fun j s e' e1 e2 => ?_, S2.dis, fun q hq => (S2.gh q hq).move ?_ .refl, tabs_upd S2.tb h2 rfl notC_dK, S2.tk, S2.nt0, S2.ww⟩
          · by_cases z : a = p
            · subst z; rw [upd_same]; exact True.intro
            · rw [upd_ne z]; exact S2.dom a ha
          · have z : c ≠ p := fun z => by
              have := S.le c u hR e tn
              rw [z, hp] at this; cases this
            rw [upd_ne z]; exact S2.le c u hR e tn
          · obtain ⟨q1, q2, a0, q3, q4⟩ := S2.row r e
            refine ⟨q1, q2, a0, ?_, ?_⟩
            · rw [upd_ne (show r ≠ p from fun z => n1.2 (z ▸ e))]; exact q3
            · rcases q4 with ⟨u, q4⟩ | q4
              · refine .inl ⟨u, ?_⟩
                rw [upd_ne (show a0 ≠ p from fun z => by rw [z, h2] at q4; cases q4)]
                exact q4
              · exact .inr q4
          · have kp : Keep (oAdd O p) H2 (upd H2 p (.dK (mergeK [] [(kk, v2)]))) := fun b u n e _ => by
              rw [upd_ne (show b ≠ p from fun z => n (z ▸ .inr rfl))]; exact e
            cases S2.sl j s e' e1 e2 with
            | no => exact .no _
            | va r => exact .va (r.move kp .refl)
            | @ow b d2 q1 q2 q3 t =>
              have nb : b ≠ p := fun z => by
                subst z
                have t0 := S.sl j _ _ e1 e2
                cases t0 with
                | ow _ _ _ t0 =>
                  obtain ⟨u, q⟩ := t0.some
                  rw [hp] at q; cases q
              exact .ow q1 q2 q3 (t.move (fun u eu _ => by rw [upd_ne nb]; exact eu) kp .refl)
            | rw e => exact .rw e
            | @da b ds q1 q2 q3 t =>
              have nb : b ≠ p := fun z => by
                subst z
                have t0 := S.sl j _ _ e1 e2
                cases t0 with
                | da _ _ _ t0 =>
                  obtain ⟨u, q, _⟩ := t0
                  rw [hp] at q; cases q
              exact .da q1 q2 q3 (t.mv (fun u eu _ => by rw [upd_ne nb]; exact eu) fun _ _ r => r.move kp .refl)
            | fn n e r => exact .fn n (kp _ _ n e rfl) fun p hp => (r p hp).move kp .refl
          · exact fun b u n e _ => by
              rw [upd_ne (show b ≠ p from fun z => n (z ▸ .inr rfl))]; exact e
        refine k _ _ _ S3 ?_ (fun a z => z.elim .inl fun e => .inr (e ▸ .of hp)) (fun a z => .inl z) (.ow (.inr rfl) n1.1 n1.2 ⟨_, upd_same, ?_⟩) fun d z => ⟨p, rfl, .of hp⟩
        · intro c u hR e tn
          have z : c ≠ p := fun z => by rw [z, hp] at e; cases e
          rw [upd_ne z]
          exact l2 c u hR (l1 c u hR (by rw [upd_ne z]; exact e) tn) tn
        · show RpK X.K (oAdd O p) _ [(kk, v2)] _
          have e4 := dKey_ok e2
          subst e4
          refine .cons (r2.move ?_ .refl) .nil
          exact fun b u n e _ => by
              rw [upd_ne (show b ≠ p from fun z => n (z ▸ .inr rfl))]; exact e
      · cases e
    · cases e
  · cases e

/-! ### statements -/
def sSet (i : Nat) (f : FX) : FS := fun env x => match f env x with
  | some (sl, x1) => some (.nx (env.set i sl), x1)
  | none => none
theorem own_ne {ω : World} {K : PySem.W.Frag} {g : FG} {O : Addr → Prop} {σ : L2.St} {H : Hp} {env : FEn} {x : FRow} (S : FSt ω K g O σ H env x) {p : Addr} (hp : Gone H p) {j : Nat} {d : OwD} {b : Addr} (h1 : env[j]? = some (.ow d)) (h2 : σ[j]? = some (some (.ref b))) : b ≠ p := fun z => by
  have q := S.sl j _ _ h2 h1
  cases q with
  | ow _ _ _ t =>
    exact t.live hp z
def isOwn : FSl → Bool
  | .ow _ => true
  | .da _ => true
  | _ => false
theorem own_ne2 {ω : World} {K : PySem.W.Frag} {g : FG} {O : Addr → Prop} {σ : L2.St} {H : Hp} {env : FEn} {x : FRow} (S : FSt ω K g O σ H env x) {p : Addr} (hp : Gone H p) {j : Nat} {e : FSl} {b : Addr} (h1 : env[j]? = some e) (h0 : isOwn e = true) (h2 : σ[j]? = some (some (.ref b))) : b ≠ p := fun z => by
  have q := S.sl j _ _ h2 h1
  cases q with
  | ow _ _ _ t =>
    exact t.live hp z
  | da _ _ _ t =>
    obtain ⟨u, q, _⟩ := t
    rw [z] at q; exact hp.no q rfl
  | _ => cases h0
theorem ss_set {i : Nat} {n : Str} {f : FX} {pos' : Pos} (hN : X.N.Nodup) (hi : X.N[i]? = some n) (hx : Loc X.env.scope n) (he : SX X e f) (hs : swapsWith e (some (.Name n pos')) pos.line X.env = pure false := by rfl)
    (hf : X.fn n = true ∨ X.env.scope.names.lookup n = some .local := by first | exact .inl rfl | exact .inr rfl | assumption) : SS X (.Assign [.Name n pos'] e pos) (sSet i f) := by
  refine ⟨PSw (ps_set hN hi hx he.out hs hf) fun Dn σ H h => ?_⟩
  obtain ⟨g, O, env, x, r, x', S, e, k⟩ := h
  unfold sSet at e
  split at e
  · rename_i sl x1 e1
    cases e
    exact ⟨g, O, env, x, sl, x', S, e1, fun O' v H' S' l w sub r nw => k O' _ H' (S'.setv i r fun d z => by
      obtain ⟨p, e2, hp⟩ := nw d z
      exact ⟨p, e2, fun j d' b h1 h2 => own_ne S hp h1 h2⟩)⟩
  · cases e
theorem sl_move {ω : World} {K : PySem.W.Frag} {g : FG} {O O' : Addr → Prop} {σ : L2.St} {H H' : Hp} {env : FEn} {x : FRow} {v : V} {sl : FSl} (S : FSt ω K g O σ H env x) (l : Le g H H') (w : Wid O O' H) (sub : ∀ a, O a → O' a) (r : SlOk K g O H (some v) sl) : SlOk K g O' H' (some v) sl := by
  cases r with
  | no => exact .no _
  | va r => exact .va (r.move (S.keep l) w)
  | ow p q r t => exact .ow (sub _ p) q r (t.move (fun o e t => l _ o r e t) (S.keep l) w)
  | rw e => exact .rw e
  | da p q r t => exact .da (sub _ p) q r (t.mv (fun o e t => l _ o r e t) fun _ _ r => r.move (S.keep l) w)
  | fn n e r => exact .fn (w.no n e) (S.keep l _ _ n e rfl) fun p hp => (r p hp).move (S.keep l) w
def sPar (i j : Nat) (f h : FX) : FS := fun env x => match f env x with
  | some (s1, x1) => match h env x1 with
    | some (s2, x2) => some (.nx ((env.set i s1).set j s2), x2)
    | none => none
  | none => none
theorem ss_par {i j : Nat} {n m : Str} {f h : FX} {px py pt : Pos} {kt k2 pt2} (hc : X.calm = true) (hN : X.N.Nodup) (hi : X.N[i]? = some n) (hj : X.N[j]? = some m) (hij : i ≠ j)
    (hx : X.env.scope.names.lookup n = some .local) (hy : X.env.scope.names.lookup m = some .local) (ha : SX X a f) (hb : SX X b h)
    (hw : swappedStores [.Tuple [.Name n px, .Name m py] kt pt] (.Tuple [a, b] k2 pt2) X.env = pure (some [n, m]))
    (hs : swapsWithSole [.Tuple [.Name n px, .Name m py] kt pt] (.Tuple [a, b] k2 pt2) pos.line X.env = pure false := by rfl)
    (hs1 : starEach [a, b] X.env = (false, eval a X.env) :: starEach [b] X.env := by rfl) (hs2 : starEach [b] X.env = (false, eval b X.env) :: starEach [] X.env := by rfl) :
    SS X (.Assign [.Tuple [.Name n px, .Name m py] kt pt] (.Tuple [a, b] k2 pt2) pos) (sPar i j f h) := by
  refine ⟨PSw (ps_par hc hN hi hj hij hx hy (pa_cons ha.out (pa_cons hb.out pa_nil hs2) hs1) hw hs) fun Dn σ H h => ?_⟩
  obtain ⟨g, O, env, x, r, x', S, e, k⟩ := h
  unfold sPar at e
  split at e
  · rename_i s1 x1 e1
    split at e
    · rename_i s2 x2 e2
      cases e
      refine ⟨g, O, env, x, s1, x1, S, e1, fun O1 v1 H1 S1 l1 w1 sub1 r1 n1 => ⟨g, O1, env, x1, s2, x', S1, e2, fun O2 v2 H2 S2 l2 w2 sub2 r2 n2 => ⟨v1, v2, rfl, ?_⟩⟩⟩
      have S3 := S2.setv i (sl_move S1 l2 w2 sub2 r1) fun d z => by
        obtain ⟨p, e3, hp⟩ := n1 d z
        exact ⟨p, e3, fun j d' b h1 h2 => own_ne S hp h1 h2⟩
      refine k O2 _ H2 (S3.setv j r2 fun d z => ?_)
      obtain ⟨p, e3, hp⟩ := n2 d z
      refine ⟨p, e3, fun j' d' b h1 h2 => ?_⟩
      rcases set_at h1 with ⟨z1, z2⟩ | ⟨z1, z2⟩
      · rcases set_at h2 with ⟨z3, z4⟩ | ⟨z3, z4⟩
        · have z4 : V.ref b = v1 := Option.some.inj z4
          subst z4
          subst z2
          cases r1 with
          | ow _ _ _ t =>
            exact t.live hp
        · exact absurd z1 z3
      · rcases set_at h2 with ⟨z3, z4⟩ | ⟨z3, z4⟩
        · exact absurd z3 z1
        · exact own_ne S1 hp z2 z4
    · cases e
  · cases e
def sRet (f : FE) : FS := fun env x => match f env x with
  | some (d, x1) => some (.rt d, x1)
  | none => none
theorem ss_ret (h : SE X e f) : SS X (.Return (some e) pos) (sRet f) := by
  refine ⟨PSw (ps_ret h.out) fun Dn σ H h => ?_⟩
  obtain ⟨g, O, env, x, r, x', S, e, k⟩ := h
  unfold sRet at e
  split at e
  · rename_i d x1 e1
    cases e
    exact ⟨g, O, env, x, d, x', S, e1, fun v H' S' l r => k O σ H' v env S' r⟩
  · cases e
def sNo : FS := fun _ _ => none
theorem ss_no {st : Stmt} : SS X st sNo := ⟨PSw ps_never fun Dn σ H h => by
  obtain ⟨g, O, env, x, r, x', S, e, k⟩ := h
  cases e⟩
def sNil : FS := fun env x => some (.nx env, x)
def sSeq (f h : FS) : FS := fun env x => match f env x with
  | some (.nx e1, x1) => h e1 x1
  | some (.rt d, x1) => some (.rt d, x1)
  | some (.bk e1, x1) => some (.bk e1, x1)
  | some (.ct e1, x1) => some (.ct e1, x1)
  | none => none
theorem sss_nil : SSs X [] sNil := ⟨PSsw pss_nil fun Dn σ H h => by
  obtain ⟨g, O, env, x, r, x', S, e, k⟩ := h
  cases e
  exact k O σ H S⟩
theorem sss_cons {st : Stmt} {rest : List Stmt} {f h : FS} (h1 : SS X st f) (h2 : SSs X rest h) : SSs X (st :: rest) (sSeq f h) := by
  refine ⟨PSsw (pss_cons h1.out h2.out) fun Dn σ H h => ?_⟩
  obtain ⟨g, O, env, x, r, x', S, e, k⟩ := h
  unfold sSeq at e
  split at e
  · rename_i e1 x1 q
    exact ⟨g, O, env, x, _, x1, S, q, fun O' σ' H' S' => ⟨g, O', e1, x1, r, x', S', e, k⟩⟩
  · rename_i d x1 q
    cases e
    exact ⟨g, O, env, x, _, x', S, q, k⟩
  · rename_i d x1 q
    cases e
    exact ⟨g, O, env, x, _, x', S, q, k⟩
  · rename_i d x1 q
    cases e
    exact ⟨g, O, env, x, _, x', S, q, k⟩
  · cases e
theorem sss_one {st : Stmt} {f : FS} (h1 : SS X st f) : SSs X [st] f := ⟨pss_one h1.out⟩
def sIf (t : FT) (f h : FS) : FS := fun env x => match t env x with
  | some (true, x1) => f env x1
  | some (false, x1) => h env x1
  | none => none
theorem ss_if {t : FT} {p q : List Stmt} {f h : FS} (ht : ST X c t) (h1 : SSs X p f) (h2 : SSs X q h) : SS X (.If c p q pos) (sIf t f h) := by
  refine ⟨PSw (ps_if ht.out h1.out h2.out) fun Dn σ H h => ?_⟩
  obtain ⟨g, O, env, x, r, x', S, e, k⟩ := h
  unfold sIf at e
  split at e
  · rename_i x1 e1
    refine ⟨g, O, env, x, _, x1, S, e1, fun H' S' l => ?_⟩
    refine iteT ?_
    exact ⟨g, O, env, x1, r, x', S', e, k⟩
  · rename_i x1 e1
    refine ⟨g, O, env, x, _, x1, S, e1, fun H' S' l => ?_⟩
    refine iteF ?_
    exact ⟨g, O, env, x1, r, x', S', e, k⟩
  · cases e
/-- an owned name is given up ahead of a statement -/
def eFrz (i : Nat) (env : FEn) : FEn := match env[i]? with
  | some (.ow d) => env.set i (.va d.d)
  | _ => env
def sFrz (i : Nat) (f : FS) : FS := fun env x => f (eFrz i env) x
theorem FSt.frz {ω : World} {K : PySem.W.Frag} {g : FG} {O : Addr → Prop} {σ : L2.St} {H : Hp} {env : FEn} {x : FRow} (S : FSt ω K g O σ H env x) (i : Nat) : ∃ O', FSt ω K g O' σ H (eFrz i env) x := by
  unfold eFrz
  split
  · rename_i d q
    obtain ⟨s, e1, q1⟩ := S.at q
    cases q1 with
    | ow p q1 q2 q3 => exact ⟨_, S.freeze q e1⟩
  · exact ⟨O, S⟩
theorem ss_frz {st : Stmt} {f : FS} (i : Nat) (h : SS X st f) : SS X st (sFrz i f) := by
  refine ⟨PSw h.out fun Dn σ H h => ?_⟩
  obtain ⟨g, O, env, x, r, x', S, e, k⟩ := h
  obtain ⟨O', S'⟩ := S.frz i
  exact ⟨g, O', eFrz i env, x, r, x', S', e, k⟩
end
end RT

namespace RT
open PySem PySem.Spec PyProof.Rows L2
/-! ### dicts -/
def dKeys : List D → Option (List L2.Key)
  | [] => some []
  | d :: ds => match dKey d, dKeys ds with
    | some k, some ks => some (k :: ks)
    | _, _ => none
theorem dKeys_ok : ∀ {ds : List D} {ks : List L2.Key}, dKeys ds = some ks → ds = ks.map keyD
  | [], ks, h => by simp [dKeys] at h; subst h; rfl
  | d :: ds, ks, h => by
    unfold dKeys at h
    split at h
    · rename_i k ks' h1 h2
      cases h
      rw [dKey_ok h1, dKeys_ok h2]
      rfl
    · cases h
theorem dKeys_map : ∀ ks : List L2.Key, dKeys (ks.map keyD) = some ks
  | [] => rfl
  | k :: ks => by
    have h : dKey (keyD k) = some k := by cases k <;> rfl
    simp only [List.map_cons, dKeys, h, dKeys_map ks]
theorem dKey_key (k : L2.Key) : dKey (keyD k) = some k := by cases k <;> rfl
theorem rp_keys {K : PySem.W.Frag} {O : Addr → Prop} {H : Hp} : ∀ {xs : List V} {ks : List L2.Key}, RpA K O H xs (ks.map keyD) → xs = ks.map kV
  | _, [], h => by cases h; rfl
  | _, k :: ks, h => by
    cases h with
    | cons a b => rw [dKey_rp (dKey_key k) a, rp_keys b]; rfl
def dKeyT : D → Option (List L2.Key)
  | .tuple ds => dKeys ds
  | _ => none
theorem dKeyT_ok {d : D} {ks : List L2.Key} (h : dKeyT d = some ks) : d = .tuple (ks.map keyD) := by
  cases d <;> simp [dKeyT] at h
  rw [dKeys_ok h]
theorem dKeyT_key (ks : List L2.Key) : dKeyT (.tuple (ks.map keyD)) = some ks := dKeys_map ks
section
variable {κ : Type} [DecidableEq κ]
/-- look up, put: by a reading of keys -/
def valD (kf : D → Option κ) (kvs : List (D × D)) (k : κ) : Option D := (kvs.find? fun p => decide (kf p.1 = some k)).map (·.2)
def putD (kf : D → Option κ) (kvs : List (D × D)) (kd : D) (k : κ) (v : D) : List (D × D) :=
  if (kvs.any fun p => decide (kf p.1 = some k)) then kvs.map fun p => if kf p.1 = some k then (p.1, v) else p else kvs ++ [(kd, v)]
end
section
variable {ω : World} {K : PySem.W.Frag} {O : Addr → Prop} {H : Hp}
theorem RpK.val {k : L2.Key} : ∀ {kvs : List (L2.Key × V)} {ds : List (D × D)}, RpK K O H kvs ds → (valV kvs k = none ∧ valD dKey ds k = none) ∨ ∃ v d, valV kvs k = some v ∧ valD dKey ds k = some d ∧ Rp K O H v d
  | _, _, .nil => .inl ⟨rfl, rfl⟩
  | _, _, .cons (k := k') (v := v) (d := d) (vs := vs) (ds := ds) a b => by
    by_cases e : k' = k
    · refine .inr ⟨v, d, valV_pos e, ?_, a⟩
      simp [valD, dKey_key, e]
    · rw [valV_neg (p := (k', v)) e]
      have h : valD dKey ((keyD k', d) :: ds) k = valD dKey ds k := by simp [valD, dKey_key, e]
      rw [h]
      exact RpK.val b
theorem RpK.any {k : L2.Key} : ∀ {kvs : List (L2.Key × V)} {ds : List (D × D)}, RpK K O H kvs ds → (kvs.any fun kv => decide (kv.1 = k)) = ds.any fun p => decide (dKey p.1 = some k)
  | _, _, .nil => rfl
  | _, _, .cons (k := k') a b => by
    rw [List.any_cons, List.any_cons, RpK.any b, dKey_key]
    simp
theorem RpK.repl {k : L2.Key} {v : V} {d : D} (r : Rp K O H v d) : ∀ {kvs : List (L2.Key × V)} {ds : List (D × D)}, RpK K O H kvs ds → RpK K O H (kvs.map fun kv => if kv.1 = k then (kv.1, v) else kv) (ds.map fun p => if dKey p.1 = some k then (p.1, d) else p)
  | _, _, .nil => .nil
  | _, _, .cons (k := k') a b => by
    rw [List.map_cons, List.map_cons]
    by_cases e : k' = k
    · subst e
      rw [if_pos rfl, if_pos (dKey_key k')]
      exact .cons r (RpK.repl r b)
    · rw [if_neg e, if_neg (by rw [dKey_key]; exact fun z => e (Option.some.inj z))]
      exact .cons a (RpK.repl r b)
theorem RpK.app : ∀ {a c : List (L2.Key × V)} {b d : List (D × D)}, RpK K O H a b → RpK K O H c d → RpK K O H (a ++ c) (b ++ d)
  | _, _, _, _, .nil, h => h
  | _, _, _, _, .cons p q, h => .cons p (RpK.app q h)
theorem RpK.length : ∀ {a : List (L2.Key × V)} {b : List (D × D)}, RpK K O H a b → a.length = b.length
  | _, _, .nil => rfl
  | _, _, .cons _ q => by rw [List.length_cons, List.length_cons, RpK.length q]
theorem RpK.put {k : L2.Key} {v : V} {d : D} {kvs : List (L2.Key × V)} {ds : List (D × D)} (q : RpK K O H kvs ds) (r : Rp K O H v d) : RpK K O H (putK kvs k v) (putD dKey ds (keyD k) k d) := by
  unfold putK putD
  rw [q.any]
  split
  · exact q.repl r
  · exact q.app (.cons r .nil)
theorem RpT.val {k : List L2.Key} : ∀ {kvs : List (List L2.Key × V)} {ds : List (D × D)}, RpT K O H kvs ds → (valV kvs k = none ∧ valD dKeyT ds k = none) ∨ ∃ v d, valV kvs k = some v ∧ valD dKeyT ds k = some d ∧ Rp K O H v d
  | _, _, .nil => .inl ⟨rfl, rfl⟩
  | _, _, .cons (k := k') (v := v) (d := d) (vs := vs) (ds := ds) a b => by
    by_cases e : k' = k
    · refine .inr ⟨v, d, valV_pos e, ?_, a⟩
      simp [valD, dKeyT_key, e]
    · rw [valV_neg (p := (k', v)) e]
      have h : valD dKeyT ((.tuple (k'.map keyD), d) :: ds) k = valD dKeyT ds k := by simp [valD, dKeyT_key, e]
      rw [h]
      exact RpT.val b
theorem RpT.any {k : List L2.Key} : ∀ {kvs : List (List L2.Key × V)} {ds : List (D × D)}, RpT K O H kvs ds → (kvs.any fun kv => decide (kv.1 = k)) = ds.any fun p => decide (dKeyT p.1 = some k)
  | _, _, .nil => rfl
  | _, _, .cons (k := k') a b => by
    rw [List.any_cons, List.any_cons, RpT.any b, dKeyT_key]
    simp
theorem RpT.repl {k : List L2.Key} {v : V} {d : D} (r : Rp K O H v d) : ∀ {kvs : List (List L2.Key × V)} {ds : List (D × D)}, RpT K O H kvs ds → RpT K O H (kvs.map fun kv => if kv.1 = k then (kv.1, v) else kv) (ds.map fun p => if dKeyT p.1 = some k then (p.1, d) else p)
  | _, _, .nil => .nil
  | _, _, .cons (k := k') a b => by
    rw [List.map_cons, List.map_cons]
    by_cases e : k' = k
    · subst e
      rw [if_pos rfl, if_pos (dKeyT_key k')]
      exact .cons r (RpT.repl r b)
    · rw [if_neg e, if_neg (by rw [dKeyT_key]; exact fun z => e (Option.some.inj z))]
      exact .cons a (RpT.repl r b)
theorem RpT.app : ∀ {a c : List (List L2.Key × V)} {b d : List (D × D)}, RpT K O H a b → RpT K O H c d → RpT K O H (a ++ c) (b ++ d)
  | _, _, _, _, .nil, h => h
  | _, _, _, _, .cons p q, h => .cons p (RpT.app q h)
theorem RpT.length : ∀ {a : List (List L2.Key × V)} {b : List (D × D)}, RpT K O H a b → a.length = b.length
  | _, _, .nil => rfl
  | _, _, .cons _ q => by rw [List.length_cons, List.length_cons, RpT.length q]
theorem RpT.put {k : List L2.Key} {v : V} {d : D} {kvs : List (List L2.Key × V)} {ds : List (D × D)} (q : RpT K O H kvs ds) (r : Rp K O H v d) : RpT K O H (putK kvs k v) (putD dKeyT ds (.tuple (k.map keyD)) k d) := by
  unfold putK putD
  rw [q.any]
  split
  · exact q.repl r
  · exact q.app (.cons r .nil)
end
/-- d[k] as data -/
def gDGet : D → D → Option (Option D)
  | .dict kvs, k => match dKey k with
    | some q => some (valD dKey kvs q)
    | none => none
  | .dictT kvs, k => match dKeyT k with
    | some q => some (valD dKeyT kvs q)
    | none => none
  | _, _ => none
theorem dget_ok {K : PySem.W.Frag} {g : FG} {O : Addr → Prop} {H : Hp} {v w : V} {d k : D} {r : Option D} (h : gDGet d k = some r) (rv : RpB K g O H v d) (rk : RpB K g O H w k) :
    ∃ a o, v = .ref a ∧ DGet H a w o ∧ ((o = none ∧ r = none) ∨ ∃ y z, o = some y ∧ r = some z ∧ Rp K O H y z) := by
  unfold gDGet at h
  split at h
  · split at h
    · rename_i kvs q e
      cases h
      obtain ⟨a, vs, rfl, hH, hr⟩ := rv.dct
      have ew : w = kV q := by
        rw [dKey_ok e] at rk
        cases q with
        | inl i => exact rk.int
        | inr s => exact rk.str
      subst ew
      refine ⟨a, _, rfl, .inl ⟨_, _, hH, rfl, rfl⟩, ?_⟩
      rcases hr.val (k := q) with ⟨h1, h2⟩ | ⟨y, z, h1, h2, h3⟩
      · exact .inl ⟨h1, h2⟩
      · exact .inr ⟨y, z, h1, h2, h3⟩
    · cases h
  · split at h
    · rename_i kvs q e
      cases h
      obtain ⟨a, vs, rfl, hH, hr⟩ := rv.dcT
      rw [dKeyT_ok e] at rk
      obtain ⟨b, xs, rfl, hb, hx⟩ := rk.tup.tupAt
      rw [rp_keys hx] at hb
      refine ⟨a, _, rfl, DGet.t hH hb, ?_⟩
      rcases hr.val (k := q) with ⟨h1, h2⟩ | ⟨y, z, h1, h2, h3⟩
      · exact .inl ⟨h1, h2⟩
      · exact .inr ⟨y, z, h1, h2, h3⟩
    · cases h
  · cases h
section
variable {X : Cx} {a b c e : Expr} {es : List Expr} {fa fb fc f : FE} {pos : Pos}
def gDAt : D → D → Option D := fun d k => match gDGet d k with
  | some (some r) => some r
  | _ => none
theorem se_dget (hu : X.A.units + 1 < cLine) (ha : SB X a fa) (hb : SB X b fb) (hs : NoSl b := by exact fun _ _ => rfl) : SE X (.Subscript a b pos) (fBin gDAt fa fb) := by
  refine ⟨PEw (pe_dget hu ha.out hb.out hs) fun σ H Q h => ?_⟩
  obtain ⟨g, O, env, x, d, x', S, e, k⟩ := h
  obtain ⟨da, x1, db, r, e1, e2, e3, rfl⟩ := fBin_some e
  refine two S e1 e2 fun v w H' S' l rv rw => ?_
  unfold gDAt at e3
  split at e3
  · rename_i z q
    cases e3
    obtain ⟨p, o, rfl, hd, h | ⟨y, z', rfl, h2, h3⟩⟩ := dget_ok q rv rw
    · cases h.2
    · cases h2
      exact ⟨p, y, rfl, hd, k _ _ S' l h3⟩
  · cases e3
def gDIn : D → D → Option D := fun k d => match gDGet d k with
  | some o => some (.bool o.isSome)
  | _ => none
def gDNotIn : D → D → Option D := fun k d => match gDGet d k with
  | some o => some (.bool (!o.isSome))
  | _ => none
theorem isSome_of {o : Option V} {r : Option D} {K : PySem.W.Frag} {O : Addr → Prop} {H : Hp} (h : (o = none ∧ r = none) ∨ ∃ y z, o = some y ∧ r = some z ∧ Rp K O H y z) : o.isSome = r.isSome := by
  rcases h with ⟨rfl, rfl⟩ | ⟨y, z, rfl, rfl, _⟩ <;> rfl
theorem pc_dinB (hu : X.A.units + 1 < cLine) (ha : SB X a fa) (hb : SB X b fb) : PC X .In a b (tE X.w X.K (fBin gDIn fa fb)) := by
  refine ⟨fun pins s σ H Q I h => (pc_din hu ha.out hb.out).run pins s σ H Q I ?_⟩
  obtain ⟨g, O, env, x, d, x', S, e, k⟩ := h
  obtain ⟨da, x1, db, r, e1, e2, e3, rfl⟩ := fBin_some e
  refine two S e1 e2 fun v w H' S' l rv rw => ?_
  unfold gDIn at e3
  split at e3
  · rename_i z q
    cases e3
    obtain ⟨p, o, rfl, hd, h⟩ := dget_ok q rw rv
    refine ⟨p, o, rfl, hd, ?_⟩
    rw [isSome_of h]
    exact k _ _ S' l (.bl _)
  · cases e3
theorem pc_dnotB (hu : X.A.units + 1 < cLine) (ha : SB X a fa) (hb : SB X b fb) : PC X .NotIn a b (tE X.w X.K (fBin gDNotIn fa fb)) := by
  refine ⟨fun pins s σ H Q I h => (pc_dnotin hu ha.out hb.out).run pins s σ H Q I ?_⟩
  obtain ⟨g, O, env, x, d, x', S, e, k⟩ := h
  obtain ⟨da, x1, db, r, e1, e2, e3, rfl⟩ := fBin_some e
  refine two S e1 e2 fun v w H' S' l rv rw => ?_
  unfold gDNotIn at e3
  split at e3
  · rename_i z q
    cases e3
    obtain ⟨p, o, rfl, hd, h⟩ := dget_ok q rw rv
    refine ⟨p, o, rfl, hd, ?_⟩
    rw [isSome_of h]
    exact k _ _ S' l (.bl _)
  · cases e3
theorem se_din (hu : X.A.units + 1 < cLine) (ha : SB X a fa) (hb : SB X b fb) (hm : behindInMarks .In b = false := by rfl) : SE X (.Compare a [.In] [b] pos) (fBin gDIn fa fb) := ⟨pe_cmp (pc_dinB hu ha hb) hm⟩
theorem se_dnot (hu : X.A.units + 1 < cLine) (ha : SB X a fa) (hb : SB X b fb) (hm : behindInMarks .NotIn b = false := by rfl) : SE X (.Compare a [.NotIn] [b] pos) (fBin gDNotIn fa fb) := ⟨pe_cmp (pc_dnotB hu ha hb) hm⟩
theorem tB_of {f : FE} {σ : L2.St} {H : Hp} {Q : Bool → Hp → Prop} (h : tT X.w X.K (fTst f) σ H Q) : L2.tB (tE X.w X.K f) σ H Q := by
  obtain ⟨g, O, env, x, d, x', S, e, k⟩ := h
  refine ⟨g, O, env, x, _, x', S, fTst_some e, fun v H' S' l r => ?_⟩
  cases r
  exact ⟨d, rfl, k H' S' l⟩
theorem st_din (hu : X.A.units + 1 < cLine) (ha : SB X a fa) (hb : SB X b fb) (hm : behindInMarks .In b = false := by rfl) : ST X (.Compare a [.In] [b] pos) (fTst (fBin gDIn fa fb)) := ⟨PTw (pt_cmp (pc_dinB hu ha hb) hm) fun _ _ _ h => tB_of h⟩
theorem st_dnot (hu : X.A.units + 1 < cLine) (ha : SB X a fa) (hb : SB X b fb) (hm : behindInMarks .NotIn b = false := by rfl) : ST X (.Compare a [.NotIn] [b] pos) (fTst (fBin gDNotIn fa fb)) := ⟨PTw (pt_cmp (pc_dnotB hu ha hb) hm) fun _ _ _ h => tB_of h⟩

/-! ### owned things change -/
/-- d[k] = v: value first, then the dict's name, then the key -/
def sDPut (i : Nat) (fk fv : FE) : FS := fun env x => match fv env x with
  | some (v, x1) => match fk env x1 with
    | some (k, x2) => match env[i]? with
      | some (.ow (.dk kvs)) => match dKey k with
        | some q => if kvs.length < maxLen then some (.nx (env.set i (.ow (.dk (putD dKey kvs k q v)))), x2) else none
        | none => none
      | some (.ow (.dt kvs)) => match dKeyT k with
        | some q => if kvs.length < maxLen then some (.nx (env.set i (.ow (.dt (putD dKeyT kvs k q v)))), x2) else none
        | none => none
      | _ => none
    | none => none
  | none => none
theorem maxLen_lt {n : Nat} (h : n < maxLen) : n < sizeLine := Nat.lt_of_lt_of_le h (maxLen_ok (Nat.le_refl _))
theorem keep_own {ω : World} {K : PySem.W.Frag} {g : FG} {O : Addr → Prop} {σ : L2.St} {H : Hp} {env : FEn} {x : FRow} (S : FSt ω K g O σ H env x) {p : Addr} {o : HO} (hp : O p) : Keep O H (upd H p o) := fun b u n e _ => by
  rw [upd_ne (show b ≠ p from fun z => n (z ▸ hp))]; exact e
theorem ss_dput {i : Nat} {n : Str} {fk fv : FE} {p0 pos' : Pos} (hu : X.A.units + 1 < cLine) (hv : SE X c fv) (hk : SE X b fk) (hs : swapsWith c (some (.Subscript (.Name n p0) b pos')) pos.line X.env = pure false := by rfl)
    (hN : X.N[i]? = some n := by rfl) (hvis : Vis X.env.scope n := by first | exact Or.inl rfl | exact Or.inr (Or.inl rfl) | exact Or.inr (Or.inr rfl)) (hd : (n == ("__debug__" : Str)) = false := by decide)
    (hcd : (n == ("__classdict__" : Str)) = false := by decide) : SS X (.Assign [.Subscript (.Name n p0) b pos'] c pos) (sDPut i fk fv) := by
  refine ⟨PSw (ps_dput hu (pe_var hN hvis hd hcd) hk.out hv.out hs) fun Dn σ H h => ?_⟩
  obtain ⟨g, O, env, x, r, x', S, e, kk⟩ := h
  unfold sDPut at e
  split at e
  · rename_i v x1 e1
    split at e
    · rename_i k x2 e2
      split at e
      · rename_i kvs e3
        split at e
        · rename_i q e4
          split at e
          · rename_i hl
            cases e
            refine ⟨g, O, env, x, v, x1, S, e1, fun y H1 S1 l1 r1 => ?_⟩
            obtain ⟨s, e5, q5⟩ := S1.at e3
            cases q5 with
            | @ow p _ op q6 q7 w =>
              refine ⟨_, e5, ⟨g, O, env, x1, k, x', S1, e2, fun z H2 S2 l2 r2 => ?_⟩⟩
              obtain ⟨s2, e6, q8⟩ := S2.at e3
              rw [e5] at e6
              cases e6
              cases q8 with
              | ow _ _ _ w2 =>
                obtain ⟨vs, hH, hr⟩ := w2
                have ez := dKey_rp e4 r2
                subst ez
                refine ⟨p, _, rfl, DPut.k (k := q) hH (by rw [hr.length]; exact maxLen_lt hl), ?_⟩
                refine kk O _ _ (S2.put e3 e5 True.intro ⟨_, upd_same, ?_⟩)
                have e7 := dKey_ok e4
                subst e7
                exact (hr.put (r1.step S1 l2)).move (keep_own S2 op) .refl
          · cases e
        · cases e
      · rename_i kvs e3
        split at e
        · rename_i q e4
          split at e
          · rename_i hl
            cases e
            refine ⟨g, O, env, x, v, x1, S, e1, fun y H1 S1 l1 r1 => ?_⟩
            obtain ⟨s, e5, q5⟩ := S1.at e3
            cases q5 with
            | @ow p _ op q6 q7 w =>
              refine ⟨_, e5, ⟨g, O, env, x1, k, x', S1, e2, fun z H2 S2 l2 r2 => ?_⟩⟩
              obtain ⟨s2, e6, q8⟩ := S2.at e3
              rw [e5] at e6
              cases e6
              cases q8 with
              | ow _ _ _ w2 =>
                obtain ⟨vs, hH, hr⟩ := w2
                have e7 := dKeyT_ok e4
                subst e7
                obtain ⟨b', xs, rfl, hb, hx⟩ := r2.tupAt
                rw [rp_keys hx] at hb
                refine ⟨p, _, rfl, DPut.t (k := q) hH hb (by rw [hr.length]; exact maxLen_lt hl), ?_⟩
                refine kk O _ _ (S2.put e3 e5 True.intro ⟨_, upd_same, ?_⟩)
                exact (hr.put (r1.step S1 l2)).move (keep_own S2 op) .refl
          · cases e
        · cases e
      · cases e
    · cases e
  · cases e
/-- xs.append(e) -/
def sApp (i : Nat) (f : FE) : FS := fun env x => match f env x with
  | some (d, x1) => match env[i]? with
    | some (.ow (.lst ds)) => if ds.length < maxLen then some (.nx (env.set i (.ow (.lst (ds ++ [d])))), x1) else none
    | _ => none
  | none => none
theorem ss_app {i : Nat} {n : Str} {f : FE} {p0 apos cpos : Pos} (he : SE X e f)
    (hs : swapsWith (.Call (.Attribute (.Name n p0) "append" apos) [e] [] cpos) none pos.line X.env = pure false := by rfl)
    (hbase : attributeBase (.Name n p0) "append" X.env (eval (.Name n p0) X.env) = eval (.Name n p0) X.env := by rfl)
    (hfew : ((backTo cpos (starEach (e :: []) X.env)).all (fun x => !x.1) && (backToKw cpos (keywordEach [] X.env)).all (fun x => x.1.isSome)
      && decide ((e :: []).length + ([] : List Keyword).length + (if ([] : List Keyword).isEmpty then 0 else 1) < 30)) = true := by rfl)
    (hline : (apos.endLine == cpos.line) = true := by rfl) (hss : starEach (e :: []) X.env = (false, eval e X.env) :: starEach [] X.env := by rfl) (hplain : (backTo cpos (starEach [] X.env)).any (·.1) = false := by rfl)
    (hN : X.N[i]? = some n := by rfl) (hvis : Vis X.env.scope n := by first | exact Or.inl rfl | exact Or.inr (Or.inl rfl) | exact Or.inr (Or.inr rfl)) (hd : (n == ("__debug__" : Str)) = false := by decide)
    (hcd : (n == ("__classdict__" : Str)) = false := by decide) : SS X (.Expr (.Call (.Attribute (.Name n p0) "append" apos) [e] [] cpos) pos) (sApp i f) := by
  refine ⟨PSw (ps_expr (pe_bm PySem.F.plainAttrs_list PySem.F.slot_list_append PySem.F.type_list_append mt_append (pe_var hN hvis hd hcd) (pa_cons he.out pa_nil hss) hbase hfew hline hss hplain) hs) fun Dn σ H h => ?_⟩
  obtain ⟨g, O, env, x, r, x', S, e, kk⟩ := h
  unfold sApp at e
  split at e
  · rename_i v x1 e1
    split at e
    · rename_i ds e3
      split at e
      · rename_i hl
        cases e
        obtain ⟨s, e5, q5⟩ := S.at e3
        cases q5 with
        | @ow p _ op q6 q7 w =>
          obtain ⟨vs, hH, hr⟩ := w
          refine ⟨_, e5, .inl ⟨rfl, _, .of hH⟩, ⟨g, O, env, x, v, x', S, e1, fun z H2 S2 l2 r2 => ?_⟩⟩
          have hH2 := l2 p _ q7 hH rfl
          refine ⟨p, vs, z, rfl, rfl, hH2, by rw [hr.length]; exact maxLen_lt hl, ?_⟩
          refine kk O _ _ (S2.put e3 e5 True.intro ⟨_, upd_same, ?_⟩)
          exact ((hr.step S l2).app (.cons r2 .nil)).move (keep_own S2 op) .refl
      · cases e
    · cases e
  · cases e
/-- xs.extend(e), e a list -/
def sExt (i : Nat) (f : FE) : FS := fun env x => match f env x with
  | some (.list es, x1) => match env[i]? with
    | some (.ow (.lst ds)) => if ds.length + es.length ≤ maxLen then some (.nx (env.set i (.ow (.lst (ds ++ es)))), x1) else none
    | _ => none
  | _ => none
theorem ss_ext {i : Nat} {n : Str} {f : FE} {p0 apos cpos : Pos} (he : SE X e f)
    (hs : swapsWith (.Call (.Attribute (.Name n p0) "extend" apos) [e] [] cpos) none pos.line X.env = pure false := by rfl)
    (hbase : attributeBase (.Name n p0) "extend" X.env (eval (.Name n p0) X.env) = eval (.Name n p0) X.env := by rfl)
    (hfew : ((backTo cpos (starEach (e :: []) X.env)).all (fun x => !x.1) && (backToKw cpos (keywordEach [] X.env)).all (fun x => x.1.isSome)
      && decide ((e :: []).length + ([] : List Keyword).length + (if ([] : List Keyword).isEmpty then 0 else 1) < 30)) = true := by rfl)
    (hline : (apos.endLine == cpos.line) = true := by rfl) (hss : starEach (e :: []) X.env = (false, eval e X.env) :: starEach [] X.env := by rfl) (hplain : (backTo cpos (starEach [] X.env)).any (·.1) = false := by rfl)
    (hN : X.N[i]? = some n := by rfl) (hvis : Vis X.env.scope n := by first | exact Or.inl rfl | exact Or.inr (Or.inl rfl) | exact Or.inr (Or.inr rfl)) (hd : (n == ("__debug__" : Str)) = false := by decide)
    (hcd : (n == ("__classdict__" : Str)) = false := by decide) : SS X (.Expr (.Call (.Attribute (.Name n p0) "extend" apos) [e] [] cpos) pos) (sExt i f) := by
  refine ⟨PSw (ps_expr (pe_bm PySem.F.plainAttrs_list PySem.F.slot_list_extend PySem.F.type_list_extend mt_extend (pe_var hN hvis hd hcd) (pa_cons he.out pa_nil hss) hbase hfew hline hss hplain) hs) fun Dn σ H h => ?_⟩
  obtain ⟨g, O, env, x, r, x', S, e, kk⟩ := h
  unfold sExt at e
  split at e
  · rename_i es x1 e1
    split at e
    · rename_i ds e3
      split at e
      · rename_i hl
        cases e
        obtain ⟨s, e5, q5⟩ := S.at e3
        cases q5 with
        | @ow p _ op q6 q7 w =>
          obtain ⟨vs, hH, hr⟩ := w
          refine ⟨_, e5, .inl ⟨rfl, _, .of hH⟩, ⟨g, O, env, x, _, x', S, e1, fun z H2 S2 l2 r2 => ?_⟩⟩
          have hH2 := l2 p _ q7 hH rfl
          cases r2 with
          | @lst b zs _ nb hb rz =>
            refine ⟨p, b, vs, zs, rfl, rfl, hH2, hb, by rw [hr.length, rz.length]; exact maxLen_ok hl, ?_⟩
            refine kk O _ _ (S2.put e3 e5 True.intro ⟨_, upd_same, ?_⟩)
            exact ((hr.step S l2).app rz).move (keep_own S2 op) .refl
      · cases e
    · cases e
  · cases e
end
end RT

namespace RT
open PySem PySem.Spec PyProof.Rows L2
/-! ### ghosts, wiping -/
def FG.add (g : FG) (more : List (V × D)) : FG := { g with gs := more ++ g.gs }
section
variable {ω : World} {K : PySem.W.Frag} {g : FG} {O O' : Addr → Prop} {σ : L2.St} {H H' : Hp} {env : FEn} {x x' : FRow}
theorem FSt.regh {g' : FG} (S : FSt ω K g O σ H env x) (h0 : g'.O0 = g.O0) (h1 : g'.H0 = g.H0) (h2 : g'.R = g.R) (h3 : ∀ p ∈ g'.gs, Rp K O H p.1 p.2) (h4 : g'.T = g.T := by rfl) (h5 : g'.w = g.w := by rfl) : FSt ω K g' O σ H env x where
  tb := by rw [h4]; exact S.tb
  tk := by rw [h4]; exact S.tk
  nt0 := by rw [h1]; exact S.nt0
  ww := by rw [h5]; exact S.ww
  sub := by rw [h0]; exact S.sub
  new := by rw [h0, h1]; exact S.new
  dom := S.dom
  le := by rw [h1]; intro a o; rw [h2]; exact S.le a o
  row := by rw [h0, h1, h2]; exact S.row
  len := S.len
  sl := fun i s e e1 e2 => by
    cases S.sl i s e e1 e2 with
    | no => exact .no _
    | va r => exact .va r
    | ow p q r t => exact .ow p (by rw [h0]; exact q) (by rw [h2]; exact r) t
    | rw e => exact .rw (by rw [h2]; exact e)
    | da p q r t => exact .da p (by rw [h0]; exact q) (by rw [h2]; exact r) (by rw [h5]; exact t)
    | fn n e r => exact .fn n e r
  dis := S.dis
  gh := h3
theorem FSt.addg (S : FSt ω K g O σ H env x) (more : List (V × D)) (h : ∀ p ∈ more, Rp K O H p.1 p.2) : FSt ω K (g.add more) O σ H env x :=
  S.regh rfl rfl rfl fun p hp => (List.mem_append.mp hp).elim (h p) (S.gh p)
theorem FSt.unadd {more : List (V × D)} (S : FSt ω K (g.add more) O σ H env x) : FSt ω K g O σ H env x :=
  S.regh rfl rfl rfl fun p hp => S.gh p (List.mem_append_right _ hp)
def wipeE (env : FEn) : List Nat → FEn
  | [] => env
  | v :: vs => (wipeE env vs).set v .no
theorem wipe_get (σ : L2.St) (j : Nat) : ∀ vs : List Nat, (wipe σ vs)[j]? = if j ∈ vs then (σ[j]?).map (fun _ => none) else σ[j]?
  | [] => by simp [wipe]
  | v :: vs => by
    unfold wipe
    rw [List.getElem?_set]
    have ih := wipe_get σ j vs
    have hl := wipe_length σ vs
    by_cases e : v = j
    · subst e
      have hm : v ∈ v :: vs := List.mem_cons_self
      rw [if_pos rfl, if_pos hm, hl]
      by_cases hv : v < σ.length
      · rw [if_pos hv, List.getElem?_eq_getElem hv]; rfl
      · rw [if_neg hv, List.getElem?_eq_none (by omega)]; rfl
    · rw [if_neg e, ih]
      have : (j ∈ v :: vs) ↔ j ∈ vs := by simp [show ¬ j = v from fun z => e z.symm]
      by_cases q : j ∈ vs
      · rw [if_pos q, if_pos (this.mpr q)]
      · rw [if_neg q, if_neg (fun z => q (this.mp z))]
theorem wipe_set {σ : L2.St} {i : Nat} {s : Option V} {vs : List Nat} (h : i ∈ vs) : wipe (σ.set i s) vs = wipe σ vs := by
  apply List.ext_getElem?
  intro j
  rw [wipe_get, wipe_get]
  by_cases q : j ∈ vs
  · rw [if_pos q, if_pos q, List.getElem?_set]
    by_cases e : i = j
    · subst e
      rw [if_pos rfl]
      by_cases hl : i < σ.length
      · rw [if_pos hl, List.getElem?_eq_getElem hl]; rfl
      · rw [if_neg hl, List.getElem?_eq_none (by omega)]
    · rw [if_neg e]
  · rw [if_neg q, if_neg q, List.getElem?_set_ne (fun e => q (by rw [← e]; exact h))]
theorem wipe_wipe (σ : L2.St) (vs : List Nat) : wipe (wipe σ vs) vs = wipe σ vs := by
  apply List.ext_getElem?
  intro j
  rw [wipe_get, wipe_get]
  by_cases q : j ∈ vs
  · rw [if_pos q, if_pos q]; cases σ[j]? <;> rfl
  · rw [if_neg q, if_neg q]
theorem wipeE_len (env : FEn) : ∀ vs : List Nat, (wipeE env vs).length = env.length
  | [] => rfl
  | v :: vs => by unfold wipeE; rw [List.length_set, wipeE_len env vs]
theorem wipeE_get {j : Nat} {e : FSl} : ∀ {vs : List Nat}, (wipeE env vs)[j]? = some e → e = .no ∨ (j ∉ vs ∧ env[j]? = some e)
  | [], h => .inr ⟨by simp, h⟩
  | v :: vs, h => by
    unfold wipeE at h
    rcases set_at h with ⟨e1, e2⟩ | ⟨e1, e2⟩
    · exact .inl e2
    · rcases wipeE_get e2 with q | ⟨q1, q2⟩
      · exact .inl q
      · exact .inr ⟨by simp [q1, show ¬ j = v from fun z => e1 z.symm], q2⟩
theorem FSt.wiped (S : FSt ω K g O σ H env x) (vs : List Nat) : FSt ω K g O (wipe σ vs) H (wipeE env vs) x where
  tb := S.tb
  tk := S.tk
  nt0 := S.nt0
  ww := S.ww
  sub := S.sub
  new := S.new
  dom := S.dom
  le := S.le
  row := S.row
  len := by rw [wipe_length, wipeE_len]; exact S.len
  sl := fun j s e h1 h2 => by
    rcases wipeE_get h2 with rfl | ⟨q1, q2⟩
    · exact .no _
    · rw [wipe_get, if_neg q1] at h1
      exact S.sl j s e h1 q2
  dis := fun i j d d' a b ne h1 h2 h3 h4 => by
    rcases wipeE_get h1 with z | ⟨q1, q2⟩
    · cases z
    · rcases wipeE_get h2 with z | ⟨q3, q4⟩
      · cases z
      · rw [wipe_get, if_neg q1] at h3
        rw [wipe_get, if_neg q3] at h4
        exact S.dis i j d d' a b ne q2 q4 h3 h4
  gh := S.gh
/-- an owned thing that no name holds changes -/
theorem FSt.upd1 (S : FSt ω K g O σ H env x) {p : Addr} {o oo : HO} (ho : H p = some oo) (nc : ¬ IsC oo) (op : O p) (n0 : ¬ g.O0 p) (nr : g.R ≠ some p) (mu : MutC (some o)) (ne : ∀ (j : Nat) d b, env[j]? = some d → isOwn d = true → σ[j]? = some (some (.ref b)) → b ≠ p) : FSt ω K g O σ (upd H p o) env x := by
  have h0 : g.H0 p = none := by
    rcases S.new p op with z | z
    · exact absurd z n0
    · exact z
  have kp := keep_own (o := o) S op
  have mp := S.dom p op
  refine ⟨S.sub, S.new, fun a ha => ?_, fun c u hR e tn => ?_, fun r e => ?_, S.len, fun j s e' e1 e2 => ?_, S.dis, fun q hq => (S.gh q hq).move kp .refl, tabs_upd S.tb ho (mut_nt (by rw [← ho]; exact mp)) nc, S.tk, S.nt0, S.ww⟩
  · by_cases z : a = p
    · subst z; rw [upd_same]; exact mu
    · rw [upd_ne z]; exact S.dom a ha
  · have z : c ≠ p := fun z => by rw [z, h0] at e; cases e
    rw [upd_ne z]; exact S.le c u hR e tn
  · obtain ⟨q1, q2, a0, q3, q4⟩ := S.row r e
    refine ⟨q1, q2, a0, ?_, ?_⟩
    · rw [upd_ne (show r ≠ p from fun z => nr (z ▸ e))]; exact q3
    · rcases q4 with ⟨u, q4⟩ | q4
      · refine .inl ⟨u, ?_⟩
        rw [upd_ne (show a0 ≠ p from fun z => by rw [← z, q4] at mp; exact mp)]
        exact q4
      · exact .inr q4
  · cases S.sl j s e' e1 e2 with
    | no => exact .no _
    | va r => exact .va (r.move kp .refl)
    | ow q1 q2 q3 t => exact .ow q1 q2 q3 (t.move (fun u eu _ => by rw [upd_ne (ne j _ _ e2 rfl e1)]; exact eu) kp .refl)
    | rw e => exact .rw e
    | da q1 q2 q3 t => exact .da q1 q2 q3 (t.mv (fun u eu _ => by rw [upd_ne (ne j _ _ e2 rfl e1)]; exact eu) fun _ _ r => r.move kp .refl)
    | fn n e r => exact .fn n (kp _ _ n e rfl) fun p hp => (r p hp).move kp .refl
/-- the wider O of a new thing is forgotten -/
theorem FSt.shrink {H0 : Hp} {x0 : FRow} (S0 : FSt ω K g O σ H0 env x0) (S : FSt ω K g O' σ H env x) (h : ∀ a, O a → O' a) : FSt ω K g O σ H env x where
  tb := S.tb
  tk := S.tk
  nt0 := S.nt0
  ww := S.ww
  sub := S0.sub
  new := S0.new
  dom := fun a ha => S.dom a (h a ha)
  le := S.le
  row := S.row
  len := S.len
  sl := fun i s e e1 e2 => by
    have w : Wid O' O H := fun a z => .inl (h a z)
    cases S.sl i s e e1 e2 with
    | no => exact .no _
    | va r => exact .va (r.move (fun _ _ _ e _ => e) w)
    | ow p q r t =>
      cases S0.sl i _ _ e1 e2 with
      | ow p0 _ _ _ => exact .ow p0 q r (t.move (fun _ e _ => e) (fun _ _ _ e _ => e) w)
    | rw e => exact .rw e
    | da p q r t =>
      cases S0.sl i _ _ e1 e2 with
      | da p0 _ _ _ => exact .da p0 q r (t.mv (fun _ e _ => e) fun _ _ r => r.move (fun _ _ _ e _ => e) w)
    | fn n e r => exact .fn (fun z => n (h _ z)) e fun p hp => (r p hp).move (fun _ _ _ e _ => e) w
  dis := S.dis
  gh := fun p hp => (S.gh p hp).move (fun _ _ _ e _ => e) (fun a z => .inl (h a z))
theorem FSt.notG (S : FSt ω K g O σ H env x) {p : Addr} (h : Gone H p) : ¬ O p := fun z => by
  have d := S.dom p z
  cases q : H p with
  | none => rw [q] at d; exact d
  | some o => exact h.no q (mut_nt (by rw [← q]; exact d))
end
section
variable {X : Cx} {a b c e : Expr} {es : List Expr} {fa fb fc f : FE} {pos : Pos}
def fOfX (f : FX) : FE := fun env x => match f env x with
  | some (.va d, x1) => some (d, x1)
  | some (.ow w, x1) => some (w.d, x1)
  | _ => none
theorem se_ofX {f : FX} (h : SX X e f) : SE X e (fOfX f) := by
  refine ⟨PEw h.out fun σ H Q h => ?_⟩
  obtain ⟨g, O, env, x, d, x', S, e, k⟩ := h
  unfold fOfX at e
  split at e
  · rename_i dd x1 e1
    cases e
    refine ⟨g, O, env, x, _, x', S, e1, fun O' v H' S' l w sub r nw => ?_⟩
    cases r with
    | va r => exact k v H' (S.shrink S' sub) l (r.move (fun _ _ _ e _ => e) fun a z => .inl (sub a z))
  · rename_i dd x1 e1
    cases e
    refine ⟨g, O, env, x, _, x', S, e1, fun O' v H' S' l w sub r nw => ?_⟩
    obtain ⟨p, rfl, hp⟩ := nw _ rfl
    have np := S.notG hp
    have wd : Wid O' O H' := fun a z => .inl (sub a z)
    cases r with
    | ow p1 q r t =>
      refine k _ H' (S.shrink S' sub) l ?_
      cases dd with
      | lst ds => obtain ⟨xs, e, r⟩ := t; exact .lst np e (r.move (fun _ _ _ e _ => e) wd)
      | dk ds => obtain ⟨xs, e, r⟩ := t; exact .dK np (.inl e) (r.move (fun _ _ _ e _ => e) wd)
      | dt ds => obtain ⟨xs, e, r⟩ := t; exact .dT np e (r.move (fun _ _ _ e _ => e) wd)
  · cases e

/-! ### targets -/
abbrev FGt := D → FEn → Option FEn
abbrev FGs := List D → FEn → Option FEn
def tG (ω : World) (K : PySem.W.Frag) (vs : List Nat) (f : FGt) : TG := fun v σ H Q => ∃ g O env x d env', FSt ω K g O σ H env x ∧ Rp K O H v d ∧ f d env = some env' ∧ ∀ σ', wipe σ' vs = wipe σ vs → FSt ω K g O σ' H env' x → Q σ' H
def tGs (ω : World) (K : PySem.W.Frag) (vs : List Nat) (f : FGs) : TGs := fun v σ H Q => ∃ g O env x d env', FSt ω K g O σ H env x ∧ RpA K O H v d ∧ f d env = some env' ∧ ∀ σ', wipe σ' vs = wipe σ vs → FSt ω K g O σ' H env' x → Q σ' H
structure SG (X : Cx) (e : Expr) (vs : List Nat) (f : FGt) : Prop where
  out : PG X e (tG X.w X.K vs f)
structure SGs (X : Cx) (e : List Expr) (vs : List Nat) (f : FGs) : Prop where
  out : PGs X e (tGs X.w X.K vs f)
theorem PGw {t t' : TG} (h : PG X e t) (q : ∀ v σ H Q, t' v σ H Q → t v σ H Q) : PG X e t' := ⟨fun pins s σ H v u Q I r z => h.run pins s σ H v u Q I r (q _ _ _ _ z)⟩
theorem PGsw {t t' : TGs} (h : PGs X es t) (q : ∀ v σ H Q, t' v σ H Q → t v σ H Q) : PGs X es t' := ⟨fun pins s σ H v u Q I r z => h.run pins s σ H v u Q I r (q _ _ _ _ z)⟩
def gtName (i : Nat) : FGt := fun d env => some (env.set i (.va d))
theorem sg_name (i : Nat) {n : Str} {vs : List Nat} (hN : X.N.Nodup) (hi : X.N[i]? = some n) (hx : Loc X.env.scope n) (hv : i ∈ vs) (hf : X.fn n = true ∨ X.env.scope.names.lookup n = some .local := by first | exact .inl rfl | exact .inr rfl | assumption) : SG X (.Name n pos) vs (gtName i) := by
  refine ⟨PGw (pg_name hN hi hx hf) fun v σ H Q h => ?_⟩
  obtain ⟨g, O, env, x, d, env', S, r, e, k⟩ := h
  cases e
  exact k _ (wipe_set hv) (S.setv i (.va r) fun d z => by cases z)
def gtNil : FGs := fun ds env => match ds with
  | [] => some env
  | _ => none
def gtCons (f : FGt) (h : FGs) : FGs := fun ds env => match ds with
  | d :: ds => match f d env with
    | some e1 => h ds e1
    | none => none
  | [] => none
theorem sgs_nil {vs : List Nat} : SGs X [] vs gtNil := by
  refine ⟨PGsw pgs_nil fun v σ H Q h => ?_⟩
  obtain ⟨g, O, env, x, d, env', S, r, e, k⟩ := h
  unfold gtNil at e
  split at e
  · cases e
    cases r
    exact ⟨rfl, k _ rfl S⟩
  · cases e
theorem sgs_cons {vs : List Nat} {f : FGt} {h : FGs} (h1 : SG X e vs f) (h2 : SGs X es vs h) (hs : (assignEach (e :: es) X.env).map (·.2) = assign e X.env :: (assignEach es X.env).map (·.2) := by rfl) : SGs X (e :: es) vs (gtCons f h) := by
  refine ⟨PGsw (pgs_cons h1.out h2.out hs) fun v σ H Q h => ?_⟩
  obtain ⟨g, O, env, x, d, env', S, r, e, k⟩ := h
  unfold gtCons at e
  split at e
  · split at e
    · rename_i d ds _ e1 q
      cases r with
      | cons r1 r2 => exact ⟨_, _, rfl, g, O, env, x, d, e1, S, r1, q, fun σ1 w1 S1 => ⟨g, O, e1, x, ds, env', S1, r2, e, fun σ2 w2 S2 => k σ2 (w2.trans w1) S2⟩⟩
    · cases e
  · cases e
def gtTup (n : Nat) (h : FGs) : FGt := fun d env => match d with
  | .tuple ds => if ds.length = n then h ds env else none
  | _ => none
theorem sg_tup {vs : List Nat} {k n : Nat} {h : FGs} (hc : X.calm = true) (h1 : SGs X es vs h) (hn : (assignEach es X.env).length = n := by rfl) (hst : (assignEach es X.env).findIdx? (·.1) = none := by rfl) : SG X (.Tuple es k pos) vs (gtTup n h) := by
  refine ⟨PGw (pg_tup hc h1.out hn hst) fun v σ H Q h => ?_⟩
  obtain ⟨g, O, env, x, d, env', S, r, e, k⟩ := h
  unfold gtTup at e
  split at e
  · rename_i ds
    split at e
    · rename_i hl
      obtain ⟨p, xs, rfl, hp, rx⟩ := r.tupAt
      exact ⟨p, xs, rfl, .of hp, by rw [rx.length]; exact hl, g, O, env, x, ds, env', S, rx, e, k⟩
    · cases e
  · cases e
/-- a, b = e -/
def sUnp (f : FE) (h : FGt) : FS := fun env x => match f env x with
  | some (d, x1) => match h d env with
    | some e1 => some (.nx e1, x1)
    | none => none
  | none => none
theorem ss_unp {tg : Expr} {vs : List Nat} {f : FE} {h : FGt} (he : SE X e f) (hg : SG X tg vs h) (hs : swapsWithSole [tg] e pos.line X.env = pure false := by rfl) (hw : swappedStores [tg] e X.env = pure none := by rfl)
    (h1 : (assignEach [tg] X.env).map (·.2) = [assign tg X.env] := by rfl) : SS X (.Assign [tg] e pos) (sUnp f h) := by
  refine ⟨PSw (ps_asg he.out hg.out hs hw h1) fun Dn σ H h => ?_⟩
  obtain ⟨g, O, env, x, r, x', S, e, k⟩ := h
  unfold sUnp at e
  split at e
  · rename_i d x1 e1
    split at e
    · rename_i env1 e2
      cases e
      exact ⟨g, O, env, x, d, x', S, e1, fun v H1 S1 l1 r1 => ⟨g, O, env, x', d, env1, S1, r1, e2, fun σ' _ S2 => k O σ' H1 S2⟩⟩
    · cases e
  · cases e

/-! ### what is walked -/
def WalksD (ω : World) (K : PySem.W.Frag) (J : It) (g : FG) (ds : List D) : Prop := ∀ O σ H env x i, FSt ω K g O σ H env x →
  (∀ d, ds[i]? = some d → J.go i H ∧ ∀ v H', J.yld i H v H' → Same H H' ∧ Rp K O H' v d) ∧ (i = ds.length → J.stop i H)
def tI (ω : World) (K : PySem.W.Frag) (f : FA) : TI := fun σ H R => ∃ g O env x ds x', FSt ω K g O σ H env x ∧ f env x = some (ds, x') ∧
  ∀ J more H', FSt ω K (g.add more) O σ H' env x' → Le g H H' → WalksD ω K J (g.add more) ds → R J H'
structure SI (X : Cx) (tg e : Expr) (f : FA) : Prop where
  out : PI X tg e (tI X.w X.K f)
def fSeq (f : FE) : FA := fun env x => match f env x with
  | some (.list ds, x1) => some (ds, x1)
  | some (.tuple ds, x1) => some (ds, x1)
  | _ => none
theorem si_seq {tg : Expr} (h : SE X e f) : SI X tg e (fSeq f) := by
  refine ⟨⟨fun pins s σ H R I h2 => ?_⟩⟩
  obtain ⟨g, O, env, x, ds, x', S, e, k⟩ := h2
  unfold fSeq at e
  split at e
  · rename_i ds' x1 e1
    cases e
    refine (pi_list h.out).run pins s σ H R I ⟨g, O, env, x, _, x', S, e1, fun v H1 S1 l1 r1 => ?_⟩
    cases r1 with
    | @lst p xs _ np hp rx =>
      refine ⟨p, rfl, ⟨xs, .of hp⟩, k _ [(.ref p, .list ds)] H1 (S1.addg _ fun q hq => ?_) l1 fun O2 σ2 H2 env2 x2 i S2 => ?_⟩
      · rw [List.mem_singleton] at hq
        subst hq
        exact .lst np hp rx
      · have q := S2.gh (.ref p, .list ds) (by simp [FG.add])
        cases q with
        | @lst _ ys _ np2 hp2 ry =>
          refine ⟨fun d hd => ?_, fun hi => ⟨ys, .of hp2, by rw [ry.length, hi]; exact Nat.le_refl _⟩⟩
          obtain ⟨y, e2, r2⟩ := ry.get hd
          refine ⟨⟨ys, y, .of hp2, e2⟩, fun v H' hy => ?_⟩
          obtain ⟨rfl, hy⟩ := hy
          have e3 := hy ys (.of hp2)
          rw [e2] at e3
          cases e3
          exact ⟨Same.refl _, r2⟩
  · rename_i ds' x1 e1
    cases e
    refine (pi_tup h.out).run pins s σ H R I ⟨g, O, env, x, _, x', S, e1, fun v H1 S1 l1 r1 => ?_⟩
    cases r1 with
    | @tup p xs _ np hp rx =>
      refine ⟨p, rfl, ⟨xs, .of hp⟩, k _ [(.ref p, .tuple ds)] H1 (S1.addg _ fun q hq => ?_) l1 fun O2 σ2 H2 env2 x2 i S2 => ?_⟩
      · rw [List.mem_singleton] at hq
        subst hq
        exact .tup np hp rx
      · have q := S2.gh (.ref p, .tuple ds) (by simp [FG.add])
        cases q with
        | @tup _ ys _ np2 hp2 ry =>
          refine ⟨fun d hd => ?_, fun hi => ⟨ys, .of hp2, by rw [ry.length, hi]; exact Nat.le_refl _⟩⟩
          obtain ⟨y, e2, r2⟩ := ry.get hd
          refine ⟨⟨ys, y, .of hp2, e2⟩, fun v H' hy => ?_⟩
          obtain ⟨rfl, hy⟩ := hy
          have e3 := hy ys (.of hp2)
          rw [e2] at e3
          cases e3
          exact ⟨Same.refl _, r2⟩
  · cases e
def rgD (lo : Int) (n : Nat) : List D := (List.range n).map fun (i : Nat) => D.int (lo + (i : Int))
theorem rgD_len (lo : Int) (n : Nat) : (rgD lo n).length = n := by simp [rgD]
theorem rgD_get {lo : Int} {n i : Nat} {d : D} (h : (rgD lo n)[i]? = some d) : i < n ∧ d = .int (lo + (i : Int)) := by
  unfold rgD at h
  rw [List.getElem?_map] at h
  by_cases hi : i < n
  · rw [List.getElem?_range hi] at h
    exact ⟨hi, (Option.some.inj h).symm⟩
  · rw [List.getElem?_eq_none (by simpa using hi)] at h
    cases h
theorem walks_rg {ω : World} {K : PySem.W.Frag} {g : FG} (lo : Int) (n : Nat) : WalksD ω K (Itr lo n) g (rgD lo n) := fun O σ H env x i S => by
  refine ⟨fun d hd => ?_, fun hi => by rw [rgD_len] at hi; exact Nat.le_of_eq hi.symm⟩
  obtain ⟨hi, rfl⟩ := rgD_get hd
  refine ⟨hi, fun v H' hy => ?_⟩
  obtain ⟨rfl, rfl⟩ := hy
  exact ⟨Same.refl _, .int _⟩
def okRg (i : Int) : Bool := decide (-(2 ^ 62) ≤ i ∧ i < 2 ^ 62)
def fRg1 (f : FE) : FA := fun env x => match f env x with
  | some (.int n, x1) => if okRg n then some (rgD 0 n.toNat, x1) else none
  | _ => none
theorem add_nil {g : FG} : g.add [] = g := rfl
theorem si_rg1 {tg : Expr} {p : Pos} (hg : Gl X "range") (hm : X.mg "range" = none) (ha : SE X a fa) (hs : starEach [a] X.env = [(false, eval a X.env)] := by rfl) : SI X tg (.Call (.Name "range" p) [a] [] pos) (fRg1 fa) := by
  refine ⟨⟨fun pins s σ H R I h2 => ?_⟩⟩
  obtain ⟨g, O, env, x, ds, x', S, e, k⟩ := h2
  unfold fRg1 at e
  split at e
  · rename_i n x1 e1
    split at e
    · rename_i ok
      cases e
      have ok := of_decide_eq_true ok
      refine (pi_range1 hg hm (pa_cons ha.out pa_nil hs) hs).run pins s σ H R I ⟨g, O, env, x, _, x', S, e1, fun v H1 S1 l1 r1 => ?_⟩
      cases r1
      exact ⟨n, rfl, ok.1, ok.2, k _ [] H1 S1 l1 (walks_rg 0 _)⟩
    · cases e
  · cases e
def fRg2 (f h : FE) : FA := fun env x => match f env x with
  | some (.int m, x1) => match h env x1 with
    | some (.int n, x2) => if okRg m && okRg n then some (rgD m (n - m).toNat, x2) else none
    | _ => none
  | _ => none
theorem si_rg2 {tg : Expr} {p : Pos} (hg : Gl X "range") (hm : X.mg "range" = none) (ha : SE X a fa) (hb : SE X b fb) (hs : starEach [a, b] X.env = [(false, eval a X.env), (false, eval b X.env)] := by rfl) (hs2 : starEach [b] X.env = [(false, eval b X.env)] := by rfl) (hs1 : starEach [a, b] X.env = (false, eval a X.env) :: starEach [b] X.env := by rfl) : SI X tg (.Call (.Name "range" p) [a, b] [] pos) (fRg2 fa fb) := by
  refine ⟨⟨fun pins s σ H R I h2 => ?_⟩⟩
  obtain ⟨g, O, env, x, ds, x', S, e, k⟩ := h2
  unfold fRg2 at e
  split at e
  · rename_i m x1 e1
    split at e
    · rename_i n x2 e2
      split at e
      · rename_i ok
        cases e
        obtain ⟨o1, o2⟩ := Bool.and_eq_true_iff.mp ok
        have o1 := of_decide_eq_true o1
        have o2 := of_decide_eq_true o2
        refine (pi_range2 hg hm (pa_cons ha.out (pa_cons hb.out pa_nil hs2) hs1) hs hs2).run pins s σ H R I ⟨g, O, env, x, _, x1, S, e1, fun v H1 S1 l1 r1 => ⟨g, O, env, x1, _, x', S1, e2, fun w H2 S2 l2 r2 => ?_⟩⟩
        cases r1
        cases r2
        exact ⟨m, n, rfl, ⟨o1.1, o1.2, o2.1, o2.2⟩, k _ [] H2 S2 (l1.trans l2) (walks_rg m _)⟩
      · cases e
    · cases e
  · cases e
/-! ### for -/
def forL (gt : FGt) (b : FS) : List D → FS
  | [], env, x => some (.nx env, x)
  | d :: ds, env, x => match gt d env with
    | none => none
    | some e1 => match b e1 x with
      | some (.nx e2, x2) => forL gt b ds e2 x2
      | some (.ct e2, x2) => forL gt b ds e2 x2
      | some (.bk e2, x2) => some (.nx e2, x2)
      | some (.rt d, x2) => some (.rt d, x2)
      | none => none
def sFor (f : FA) (gt : FGt) (b : FS) : FS := fun env x => match f env x with
  | some (ds, x1) => forL gt b ds env x1
  | none => none
theorem drop_get {α : Type} {l : List α} {i : Nat} {d : α} (h : l[i]? = some d) : l.drop i = d :: l.drop (i + 1) := by
  obtain ⟨hl, e⟩ := List.getElem?_eq_some_iff.mp h
  rw [List.drop_eq_getElem_cons hl, e]
theorem ss_for {tg : Expr} {body : List Stmt} {vs : List Nat} {f : FA} {gt : FGt} {fb : FS} (hp : PassesOwn (model X.prog X.w) X.A X.env X.xe) (hc : X.calm = true) (hi : SI X tg e f) (hg : SG X tg vs gt) (hb : SSs X body fb)
    (hs : ∀ x, foldedSetIterable e X.env x = pure x := by intro _; rfl) : SS X (.For tg e body [] pos) (sFor f gt fb) := by
  refine ⟨PSw (ps_for hp hc hi.out hg.out hb.out hs) fun Dn σ H h => ?_⟩
  obtain ⟨g, O, env, x, r, x', S, e, k⟩ := h
  unfold sFor at e
  split at e
  · rename_i ds x1 e1
    refine ⟨g, O, env, x, ds, x1, S, e1, fun J more H1 S1 l1 wk => ?_⟩
    refine ⟨fun i m σ H => m = ds.length - i ∧ i ≤ ds.length ∧ ∃ O env x, FSt X.w X.K (g.add more) O σ H env x ∧ forL gt fb (ds.drop i) env x = some (r, x'), ⟨_, rfl, Nat.zero_le _, O, env, x1, S1, e⟩, fun i m σ H hW => ?_⟩
    obtain ⟨rfl, hil, O, env, x, S, e⟩ := hW
    obtain ⟨wgo, wst⟩ := wk O σ H env x i S
    by_cases hlt : i < ds.length
    · have hd : ds[i]? = some ds[i] := List.getElem?_eq_getElem hlt
      obtain ⟨go, yl⟩ := wgo _ hd
      rw [drop_get hd] at e
      refine .inr ⟨go, fun σ' H' => i + 1 ≤ ds.length ∧ ∃ O env x, FSt X.w X.K (g.add more) O σ' H' env x ∧ forL gt fb (ds.drop (i + 1)) env x = some (r, x'), fun σ' H' hN => ⟨ds.length - (i + 1), by omega, rfl, hN.1, hN.2⟩, fun v H' hy => ?_⟩
      obtain ⟨sm, rv⟩ := yl v H' hy
      unfold forL at e
      split at e
      · cases e
      · rename_i env1 e2
        refine ⟨g.add more, O, env, x, ds[i], env1, S.same sm, rv, e2, fun σ1 _ S2 => ?_⟩
        split at e
        · rename_i env2 x2 e3
          exact ⟨g.add more, O, env1, x, _, x2, S2, e3, fun O' σ' H' S' => ⟨hlt, O', env2, x2, S', e⟩⟩
        · rename_i env2 x2 e3
          exact ⟨g.add more, O, env1, x, _, x2, S2, e3, fun O' σ' H' S' => ⟨hlt, O', env2, x2, S', e⟩⟩
        · rename_i env2 x2 e3
          cases e
          exact ⟨g.add more, O, env1, x, _, x', S2, e3, fun O' σ' H' S' => k O' σ' H' S'.unadd⟩
        · rename_i d x2 e3
          cases e
          exact ⟨g.add more, O, env1, x, _, x', S2, e3, fun O' σ' H' v env' S' r' => k O' σ' H' v env' S'.unadd r'⟩
        · cases e
    · have hi : i = ds.length := by omega
      rw [hi, List.drop_length] at e
      unfold forL at e
      cases e
      exact .inl ⟨wst hi, k O σ H S.unadd⟩
  · cases e
/-! ### while -/
def whL (t : FT) (b : FS) : Nat → FS
  | 0, _, _ => none
  | n + 1, env, x => match t env x with
    | some (true, x1) => match b env x1 with
      | some (.nx e2, x2) => whL t b n e2 x2
      | some (.ct e2, x2) => whL t b n e2 x2
      | some (.bk e2, x2) => some (.nx e2, x2)
      | some (.rt d, x2) => some (.rt d, x2)
      | none => none
    | some (false, x1) => some (.nx env, x1)
    | none => none
theorem ss_while {body : List Stmt} {t : FT} {fb : FS} (n : Nat) (hp : PassesOwn (model X.prog X.w) X.A X.env X.xe) (ht : ST X c t) (hb : SSs X body fb) : SS X (.While c body [] pos) (whL t fb n) := by
  refine ⟨PSw (ps_while hp ht.out hb.out) fun Dn σ H h => ?_⟩
  obtain ⟨g, O, env, x, r, x', S, e, k⟩ := h
  refine ⟨fun m σ H => ∃ O env x, FSt X.w X.K g O σ H env x ∧ whL t fb m env x = some (r, x'), ⟨n, O, env, x, S, e⟩, fun m σ H hW => ?_⟩
  obtain ⟨O, env, x, S, e⟩ := hW
  cases m with
  | zero => unfold whL at e; cases e
  | succ m =>
    unfold whL at e
    split at e
    · rename_i x1 e1
      refine ⟨g, O, env, x, _, x1, S, e1, fun H1 S1 l1 => ?_⟩
      refine iteT ?_
      refine ⟨fun σ' H' => ∃ O env x, FSt X.w X.K g O σ' H' env x ∧ whL t fb m env x = some (r, x'), fun σ' H' hN => ⟨m, Nat.lt_succ_self m, hN⟩, ?_⟩
      split at e
      · rename_i env2 x2 e3
        exact ⟨g, O, env, x1, _, x2, S1, e3, fun O' σ' H' S' => ⟨O', env2, x2, S', e⟩⟩
      · rename_i env2 x2 e3
        exact ⟨g, O, env, x1, _, x2, S1, e3, fun O' σ' H' S' => ⟨O', env2, x2, S', e⟩⟩
      · rename_i env2 x2 e3
        cases e
        exact ⟨g, O, env, x1, _, x', S1, e3, fun O' σ' H' S' => k O' σ' H' S'⟩
      · rename_i d x2 e3
        cases e
        exact ⟨g, O, env, x1, _, x', S1, e3, fun O' σ' H' v env' S' r' => k O' σ' H' v env' S' r'⟩
      · cases e
    · rename_i x1 e1
      cases e
      refine ⟨g, O, env, x, _, x', S, e1, fun H1 S1 l1 => ?_⟩
      refine iteF ?_
      exact k O σ H1 S1
    · cases e
/-! ### comprehensions -/
def compL (gt : FGt) (t : FT) (fe : FE) (env : FEn) : List D → FRow → Option (List D × FRow)
  | [], x => some ([], x)
  | d :: ds, x => match gt d env with
    | none => none
    | some e1 => match t e1 x with
      | some (true, x1) => match fe e1 x1 with
        | some (r, x2) => match compL gt t fe env ds x2 with
          | some (rs, x3) => some (r :: rs, x3)
          | none => none
        | none => none
      | some (false, x1) => compL gt t fe env ds x1
      | none => none
def xLc (f : FA) (gt : FGt) (t : FT) (fe : FE) (vs : List Nat) : FX := fun env x => match f env x with
  | some (ds, x1) => match compL gt t fe (wipeE env vs) ds x1 with
    | some (rs, x2) => if rs.length < maxLen then some (.ow (.lst rs), x2) else none
    | none => none
  | none => none
theorem lc_read {ω : World} {K : PySem.W.Frag} {f : FA} {gt : FGt} {t : FT} {fe : FE} {vs : List Nat} {σ : L2.St} {H : Hp} {Q : VK} (h : tX ω K (xLc f gt t fe vs) σ H Q) : tLc (tI ω K f) (tG ω K vs gt) (tT ω K t) (tE ω K fe) vs σ H Q := by
  obtain ⟨g, O, env, x, sl, x', S, e, k⟩ := h
  unfold xLc at e
  split at e
  · rename_i ds x1 e1
    split at e
    · rename_i rs x2 e2
      split at e
      · rename_i hl
        cases e
        refine ⟨g, O, env, x, ds, x1, S, e1, fun J more H1 S1 l1 wk p hp => ?_⟩
        have n1 := S1.newp hp
        have hp0 : Gone H p := Le.gone l1 (.of hp) S1.unadd
        have hne : ∀ (j : Nat) d b, env[j]? = some d → isOwn d = true → σ[j]? = some (some (.ref b)) → b ≠ p := fun j d b h1 h0 h2 => own_ne2 S1 (.of hp) h1 h0 h2
        refine ⟨fun i m H2 => m = ds.length - i ∧ i ≤ ds.length ∧ Le g H H2 ∧ ∃ x acc dn rest, FSt ω K (g.add more) (oAdd O p) σ H2 env x ∧ H2 p = some (.lst acc) ∧ RpA K (oAdd O p) H2 acc dn ∧ compL gt t fe (wipeE env vs) (ds.drop i) x = some (rest, x') ∧ dn ++ rest = rs,
          ⟨_, rfl, Nat.zero_le _, l1.trans (.of (same_upd hp)), x1, [], [], rs, S1.own hp True.intro, upd_same, .nil, e2, rfl⟩, fun i m H2 hW => ?_⟩
        obtain ⟨rfl, hil, lH, x, acc, dn, rest, S2, hacc, racc, e, er⟩ := hW
        obtain ⟨wgo, wst⟩ := wk _ σ H2 env x i S2
        by_cases hlt : i < ds.length
        · have hd : ds[i]? = some ds[i] := List.getElem?_eq_getElem hlt
          obtain ⟨go, yl⟩ := wgo _ hd
          rw [drop_get hd] at e
          refine .inr ⟨go, fun H2 => i + 1 ≤ ds.length ∧ Le g H H2 ∧ ∃ x acc dn rest, FSt ω K (g.add more) (oAdd O p) σ H2 env x ∧ H2 p = some (.lst acc) ∧ RpA K (oAdd O p) H2 acc dn ∧ compL gt t fe (wipeE env vs) (ds.drop (i + 1)) x = some (rest, x') ∧ dn ++ rest = rs,
            fun H' hN => ⟨ds.length - (i + 1), by omega, rfl, hN.1, hN.2⟩, fun v H3 hy => ?_⟩
          obtain ⟨sm, rv⟩ := yl v H3 hy
          unfold compL at e
          split at e
          · cases e
          · rename_i env1 e3
            have S3 := S2.same sm
            refine ⟨g.add more, oAdd O p, wipeE env vs, x, ds[i], env1, S3.wiped vs, rv, e3, fun σ1 w1 S4 => ⟨w1.trans (wipe_wipe σ vs), ?_⟩⟩
            split at e
            · rename_i xb e4
              split at e
              · rename_i r x3 e5
                split at e
                · rename_i rs' x4 e6
                  cases e
                  refine ⟨g.add more, oAdd O p, env1, x, _, xb, S4, e4, fun H5 S5 l5 => ?_⟩
                  refine iteT ?_
                  refine ⟨g.add more, oAdd O p, env1, xb, r, x3, S5, e5, fun y H6 S6 l6 r6 => ?_⟩
                  have l7 : Le (g.add more) H2 H6 := (Le.of sm).trans (l5.trans l6)
                  have S7 := S2.step l7 S6.tb fun r hr => (S6.row r hr).2.2
                  have hacc' := l7 p _ n1.2 hacc rfl
                  have ll : acc.length < maxLen := by
                    have := racc.length
                    have h2 : (dn ++ r :: rs').length = rs.length := by rw [er]
                    rw [List.length_append, List.length_cons] at h2
                    omega
                  refine ⟨acc, hacc', maxLen_lt ll, hlt, ?_, x3, acc ++ [y], dn ++ [r], rs', S7.upd1 hacc' notC_lst (.inr rfl) n1.1 n1.2 True.intro hne, upd_same, ?_, e6, by rw [List.append_assoc]; exact er⟩
                  · intro c u hR e tn
                    have z : c ≠ p := fun z => by rw [z] at e; exact hp0.no e tn
                    rw [upd_ne z]
                    exact l7 c u hR (lH c u hR e tn) tn
                  · exact ((racc.step S2 l7).app (.cons r6 .nil)).move (keep_own S7 (.inr rfl)) .refl
                · cases e
              · cases e
            · rename_i xb e4
              refine ⟨g.add more, oAdd O p, env1, x, _, xb, S4, e4, fun H5 S5 l5 => ?_⟩
              refine iteF ?_
              have l7 : Le (g.add more) H2 H5 := (Le.of sm).trans l5
              have S7 := S2.step l7 S5.tb fun r hr => (S5.row r hr).2.2
              exact ⟨hlt, fun c u hR e tn => l7 c u hR (lH c u hR e tn) tn, xb, acc, dn, rest, S7, l7 p _ n1.2 hacc rfl, racc.step S2 l7, e, er⟩
            · cases e
        · have hi : i = ds.length := by omega
          rw [hi, List.drop_length] at e
          unfold compL at e
          cases e
          rw [List.append_nil] at er
          subst er
          refine .inl ⟨wst hi, k (oAdd O p) _ H2 S2.unadd lH (fun a z => z.elim .inl fun e => .inr (e ▸ hp0)) (fun a z => .inl z) (.ow (.inr rfl) n1.1 n1.2 ⟨acc, hacc, racc⟩) fun d z => ⟨p, rfl, hp0⟩⟩
      · cases e
    · cases e
  · cases e
structure STs (X : Cx) (es : List Expr) (f : FT) : Prop where
  out : PTs X es (tT X.w X.K f)
theorem PTsw {es : List Expr} {t t' : TT} (h : PTs X es t) (q : ∀ σ H Q, t' σ H Q → t σ H Q) : PTs X es t' := ⟨fun pins s σ H Q I z => h.run pins s σ H Q I (q _ _ _ z)⟩
def tYesF : FT := fun _ x => some (true, x)
theorem sts_nil : STs X [] tYesF := ⟨PTsw pts_nil fun σ H Q h => by
  obtain ⟨g, O, env, x, d, x', S, e, k⟩ := h
  cases e
  exact k H S (Le.refl _ _)⟩
theorem sts_one {t : FT} (h : ST X c t) : STs X [c] t := ⟨pts_one h.out⟩
theorem sx_lc {elt tg iter : Expr} {ifs : List Expr} {scope : Scope} {own : List (Str × Nat)} {f : FA} {gt : FGt} {t : FT} {fe : FE} (hc : X.calm = true) (hN : X.N.Nodup) (hi : SI X tg iter f) (ok : BlkOk X.N X.env.scope scope own)
    (hg : ∀ (s : Shared) (H : Hp) (C : Addr) (cl : List (Str × Addr)) (fp : List Addr), SG (X.blk s H scope (compEnvC scope cl C X.env) fp) tg (own.map (·.2)) gt)
    (ht : ∀ (s : Shared) (H : Hp) (C : Addr) (cl : List (Str × Addr)) (fp : List Addr), STs (X.blk s H scope (compEnvC scope cl C X.env) fp) ifs t)
    (he : ∀ (s : Shared) (H : Hp) (C : Addr) (cl : List (Str × Addr)) (fp : List Addr), SE (X.blk s H scope (compEnvC scope cl C X.env) fp) elt fe) (hs : ∀ x, foldedSetIterable iter X.env x = pure x := by intro _; rfl) :
    SX X (.ListComp elt [⟨tg, iter, ifs, 0⟩] scope pos) (xLc f gt t fe (own.map (·.2))) :=
  ⟨PEw (pe_lc hc hN hi.out ok (fun s H C cl fp => (show PG _ tg (tG X.w X.K (own.map (·.2)) gt) from (hg s H C cl fp).out)) (fun s H C cl fp => (show PTs _ ifs (tT X.w X.K t) from (ht s H C cl fp).out)) (fun s H C cl fp => (show PE _ elt (tE X.w X.K fe) from (he s H C cl fp).out)) hs) fun σ H Q h => lc_read h⟩
theorem ss_setLc {i : Nat} {y : Str} {py : Pos} {elt tg iter : Expr} {ifs : List Expr} {scope : Scope} {own : List (Str × Nat)} {cpos : Pos} {f : FA} {gt : FGt} {t : FT} {fe : FE} (hc : X.calm = true) (hN : X.N.Nodup) (hy : X.N[i]? = some y) (hyl : X.env.scope.names.lookup y = some .local)
    (hsw : swapsWith (.ListComp elt [⟨tg, iter, ifs, 0⟩] scope cpos) (some (.Name y py)) pos.line X.env = pure true) (hi : SI X tg iter f) (ok : BlkOk X.N X.env.scope scope own)
    (hg : ∀ (s : Shared) (H : Hp) (C : Addr) (cl : List (Str × Addr)) (fp : List Addr), SG (X.blk s H scope (compEnvC scope cl C X.env) fp) tg (own.map (·.2)) gt)
    (ht : ∀ (s : Shared) (H : Hp) (C : Addr) (cl : List (Str × Addr)) (fp : List Addr), STs (X.blk s H scope (compEnvC scope cl C X.env) fp) ifs t)
    (he : ∀ (s : Shared) (H : Hp) (C : Addr) (cl : List (Str × Addr)) (fp : List Addr), SE (X.blk s H scope (compEnvC scope cl C X.env) fp) elt fe) (hs : ∀ x, foldedSetIterable iter X.env x = pure x := by intro _; rfl)
    (tr : FX → FX) (htr : tr = id ∨ tr = fun f => xVal (fOfX f)) : SS X (.Assign [.Name y py] (.ListComp elt [⟨tg, iter, ifs, 0⟩] scope cpos) pos) (sSet i (tr (xLc f gt t fe (own.map (·.2))))) := by
  have main : ∀ fx : FX, (∀ σ H Q, tX X.w X.K fx σ H Q → tLc (tI X.w X.K f) (tG X.w X.K (own.map (·.2)) gt) (tT X.w X.K t) (tE X.w X.K fe) (own.map (·.2)) σ H Q) → SS X (.Assign [.Name y py] (.ListComp elt [⟨tg, iter, ifs, 0⟩] scope cpos) pos) (sSet i fx) := fun fx hfx => by
    refine ⟨PSw (ps_setLc hc hN hy hyl hsw hi.out ok (fun s H C cl fp => (show PG _ tg (tG X.w X.K (own.map (·.2)) gt) from (hg s H C cl fp).out)) (fun s H C cl fp => (show PTs _ ifs (tT X.w X.K t) from (ht s H C cl fp).out)) (fun s H C cl fp => (show PE _ elt (tE X.w X.K fe) from (he s H C cl fp).out)) hs) fun Dn σ H h => ?_⟩
    obtain ⟨g, O, env, x, r, x', S, e, k⟩ := h
    unfold sSet at e
    split at e
    · rename_i sl x1 e1
      cases e
      exact hfx σ H _ ⟨g, O, env, x, sl, x', S, e1, fun O' v H' S' l w sub r nw => k O' _ H' (S'.setv i r fun d z => by
        obtain ⟨p, e2, hp⟩ := nw d z
        exact ⟨p, e2, fun j d' b h1 h2 => own_ne S hp h1 h2⟩)⟩
    · cases e
  rcases htr with rfl | rfl
  · exact main _ fun σ H Q h => lc_read h
  · refine main _ fun σ H Q h => ?_
    obtain ⟨g, O, env, x, sl, x', S, e, k⟩ := h
    change (match fOfX (xLc f gt t fe (own.map (·.2))) env x with
      | some (d, x1) => some (FSl.va d, x1)
      | none => none) = some (sl, x') at e
    split at e
    · rename_i d x1 e1
      cases e
      unfold fOfX at e1
      split at e1
      · rename_i dd x1 e2
        unfold xLc at e2
        split at e2
        · split at e2
          · split at e2
            · cases e2
            · cases e2
          · cases e2
        · cases e2
      · rename_i dd x1 e2
        cases e1
        refine lc_read ⟨g, O, env, x, _, x', S, e2, fun O' v H' S' l w sub r nw => ?_⟩
        obtain ⟨p, rfl, hp⟩ := nw _ rfl
        have np := S.notG hp
        have wd : Wid O' O H' := fun a z => .inl (sub a z)
        cases r with
        | ow p1 q r t =>
          refine k O _ H' (S.shrink S' sub) l .refl (fun _ h => h) (.va ?_) fun d z => by cases z
          cases dd with
          | lst ds => obtain ⟨xs, e, r⟩ := t; exact .lst np e (r.move (fun _ _ _ e _ => e) wd)
          | dk ds => obtain ⟨xs, e, r⟩ := t; exact .dK np (.inl e) (r.move (fun _ _ _ e _ => e) wd)
          | dt ds => obtain ⟨xs, e, r⟩ := t; exact .dT np e (r.move (fun _ _ _ e _ => e) wd)
      · cases e1
    · cases e
end
end RT

namespace RT
open PySem PySem.Spec PyProof.Rows L2
/-! ### what defs promise -/
def spF (K : PySem.W.Frag) (m : List D → Option D) : Sp := fun vs H Q _ => ∃ T O ds d, TOK K T ∧ LamX.Tabs T H ∧ (∀ a, O a → MutC (H a)) ∧ RpA K O H vs ds ∧ m ds = some d ∧ ∀ v H', SameT T H H' → Rp K O H' v d → Q v H'
def spR (K : PySem.W.Frag) (m : List D → FRow → Option (D × FRow)) : Sp := fun vs H Q _ => ∃ T O r vs' ds x d x', TOK K T ∧ LamX.Tabs T H ∧ (∀ a, O a → MutC (H a)) ∧ O r ∧ vs = .ref r :: vs' ∧ RowAt K H r x ∧ RpA K O H vs' ds ∧ m ds x = some (d, x') ∧
  ∀ v H', (∀ a o, a ≠ r → H a = some o → isNT o = true → H' a = some o) → LamX.Tabs T H' → RowAt K H' r x' → Rp K O H' v d → Q v H'
def startE (n : Nat) (ds : List D) : FEn := ds.map FSl.va ++ List.replicate (n - ds.length) FSl.no
def row0 : FRow := ⟨[], 0, 0, 0⟩
def mkF (n k : Nat) (body : FS) : List D → Option D := fun ds => if ds.length = k then match body (startE n ds) row0 with
  | some (.rt d, _) => some d
  | some (.nx _, _) => some .none
  | _ => none
  else none
def mkR (n k : Nat) (body : FS) : List D → FRow → Option (D × FRow) := fun ds x => if ds.length = k then match body (.rw :: startE n ds) x with
  | some (.rt d, x') => some (d, x')
  | some (.nx _, x') => some (.none, x')
  | _ => none
  else none
section
variable {P : Program} {ω : World} {K : PySem.W.Frag} {mg : Str → Option Value} {base : Heap}
theorem vas_at {K : PySem.W.Frag} {g : FG} {O : Addr → Prop} {H : Hp} {m : Nat} : ∀ {vs : List V} {ds : List D}, RpA K O H vs ds → ∀ (i : Nat) s e, (vs.map some ++ List.replicate m none)[i]? = some s → (ds.map FSl.va ++ List.replicate m FSl.no)[i]? = some e → SlOk K g O H s e
  | _, _, .nil, i, s, e, h1, h2 => by
    rw [List.map_nil, List.nil_append] at h1 h2
    have := (List.mem_replicate.mp (List.mem_of_getElem? h2)).2
    subst this
    exact .no _
  | _, _, .cons a b, 0, s, e, h1, h2 => by
    have e1 := Option.some.inj h1
    have e2 := Option.some.inj h2
    subst e1
    subst e2
    exact .va a
  | _, _, .cons a b, i + 1, s, e, h1, h2 => vas_at b i s e (by simpa using h1) (by simpa using h2)
theorem no_ow {m i : Nat} {w : OwD} : ∀ {ds : List D}, (ds.map FSl.va ++ List.replicate m FSl.no)[i]? ≠ some (.ow w) := fun {ds} h => by
  have h := List.mem_of_getElem? h
  rcases List.mem_append.mp h with h | h
  · obtain ⟨d, _, e⟩ := List.mem_map.mp h
    cases e
  · have := (List.mem_replicate.mp h).2
    cases this
theorem ok_fn {x qual : Str} {st : Stmt} {f : Addr} {fd : FuncData} {N ps : List Str} {k : Nat} {body : FS} (F : Fun K x qual st f fd) (S : FnScope N ps (defScope st))
    (h : ∀ (cdv : Value) (A : Around) (outer : List Env) (s : Shared) (H : Hp) (E : XK), Room k (A.deeper (envOfC qual (defScope st) s.heap.objs.size f cdv)) → SSs (cxOf CX0 P ω K mg base N qual (defScope st) f cdv A outer s H E).nox (defBody st) body) :
    FnOk P ω K mg base CX0 (k + 1) f fd ps (spF K (mkF N.length ps.length body)) := by
  refine F.ok S (fun vs H Q E h => ?_) (fun cdv A outer s H vs Q E hr hsp => ⟨tS ω K body, (h cdv A outer s H E hr).out, ?_⟩)
  · obtain ⟨T, O, ds, d, _, _, _, r, e, _⟩ := h
    unfold mkF at e
    split at e
    · rename_i hl
      rw [r.length, hl]
    · cases e
  · obtain ⟨T, O, ds, d, tk, tb, dom, r, e, q⟩ := hsp
    unfold mkF at e
    split at e
    · rename_i hl
      have S0 : FSt ω K ⟨O, noT H, none, [], T, ω⟩ O (L2.start N vs) H (startE N.length ds) row0 := by
        refine ⟨fun _ h => h, fun _ h => .inl h, dom, (fun a o _ e _ => (noT_some e).1), fun r e => (by cases e), ?_, fun i s e h1 h2 => ?_, fun i j d d' a b ne h1 h2 => absurd h1 no_ow, fun p hp => (by cases hp), tb, tk, fun a o e => (noT_some e).2, rfl⟩
        · unfold L2.start startE
          rw [List.length_append, List.length_append, List.length_map, List.length_map, List.length_replicate, List.length_replicate, r.length]
        · unfold L2.start at h1
          unfold startE at h2
          rw [r.length] at h1
          exact vas_at r i s e h1 h2
      have same : ∀ {O' : Addr → Prop} {σ' : L2.St} {H' : Hp} {env' : FEn} {x' : FRow}, FSt ω K ⟨O, noT H, none, [], T, ω⟩ O' σ' H' env' x' → SameT T H H' := fun S' => ⟨fun a o e t => S'.le a o (fun z => by cases z) (noT_of e t) t, S'.tb⟩
      split at e
      · rename_i d' x' e1
        cases e
        exact ⟨_, O, _, row0, _, _, S0, e1, fun O' σ' H' v env' S' rp => q v H' (same S') (rp.move (fun _ _ _ e _ => e) fun a z => .inl (S'.sub a z))⟩
      · rename_i d' x' e1
        cases e
        exact ⟨_, O, _, row0, _, _, S0, e1, fun O' σ' H' S' => q _ H' (same S') .non⟩
      · cases e
    · cases e
theorem ok_fnR {x qual : Str} {st : Stmt} {f : Addr} {fd : FuncData} {N ps : List Str} {k : Nat} {body : FS} (F : Fun K x qual st f fd) (S : FnScope N ps (defScope st)) (h0 : 0 < N.length) (h1 : 0 < ps.length)
    (h : ∀ (cdv : Value) (A : Around) (outer : List Env) (s : Shared) (H : Hp) (E : XK), Room k (A.deeper (envOfC qual (defScope st) s.heap.objs.size f cdv)) → SSs (cxOf CX0 P ω K mg base N qual (defScope st) f cdv A outer s H E).nox (defBody st) body) :
    FnOk P ω K mg base CX0 (k + 1) f fd ps (spR K (mkR (N.length - 1) (ps.length - 1) body)) := by
  refine F.ok S (fun vs H Q E h => ?_) (fun cdv A outer s H vs Q E hr hsp => ⟨tS ω K body, (h cdv A outer s H E hr).out, ?_⟩)
  · obtain ⟨T, O, r, vs', ds, x, d, x', _, _, _, _, rfl, _, r, e, _⟩ := h
    unfold mkR at e
    split at e
    · rename_i hl
      rw [List.length_cons, r.length, hl]
      omega
    · cases e
  · obtain ⟨T, O, ra, vs', ds, x, d, x', tk, tb, dom, ro, rfl, rat, r, e, q⟩ := hsp
    unfold mkR at e
    split at e
    · rename_i hl
      have hne : noT H ra ≠ none := by
        obtain ⟨a0, e, _⟩ := rat
        rw [noT_of e rfl]
        exact fun z => by cases z
      have S0 : FSt ω K ⟨O, noT H, some ra, [], T, ω⟩ O (L2.start N (.ref ra :: vs')) H (.rw :: startE (N.length - 1) ds) x := by
        refine ⟨fun _ h => h, fun _ h => .inl h, dom, (fun a o _ e _ => (noT_some e).1), fun r e => (by cases e; exact ⟨ro, hne, rat⟩), ?_, fun i s e h1 h2 => ?_, fun i j d d' a b ne h1 h2 => ?_, fun p hp => (by cases hp), tb, tk, fun a o e => (noT_some e).2, rfl⟩
        · unfold L2.start startE
          simp only [List.length_append, List.length_cons, List.length_map, List.length_replicate, r.length]
          omega
        · unfold L2.start at h1
          unfold startE at h2
          cases i with
          | zero =>
            have e1 := Option.some.inj h1
            have e2 := Option.some.inj h2
            subst e1
            subst e2
            exact .rw rfl
          | succ i =>
            have e3 : N.length - (V.ref ra :: vs').length = N.length - 1 - ds.length := by
              rw [List.length_cons, r.length]
              omega
            rw [e3] at h1
            exact vas_at r i s e (by simpa using h1) (by simpa using h2)
        · unfold startE at h1
          cases i with
          | zero => have e1 := Option.some.inj h1; cases e1
          | succ i => exact absurd (show (ds.map FSl.va ++ List.replicate (N.length - 1 - ds.length) FSl.no)[i]? = _ by simpa using h1) no_ow
      have same : ∀ {O' : Addr → Prop} {σ' : L2.St} {H' : Hp} {env' : FEn} {x' : FRow}, FSt ω K ⟨O, noT H, some ra, [], T, ω⟩ O' σ' H' env' x' → (∀ a o, a ≠ ra → H a = some o → isNT o = true → H' a = some o) := fun S' a o n e t => S'.le a o (fun z => n (Option.some.inj z).symm) (noT_of e t) t
      split at e
      · rename_i d' x' e1
        cases e
        exact ⟨_, O, _, x, _, _, S0, e1, fun O' σ' H' v env' S' rp => q v H' (same S') S'.tb (S'.row ra rfl).2.2 (rp.move (fun _ _ _ e _ => e) fun a z => .inl (S'.sub a z))⟩
      · rename_i d' x' e1
        cases e
        exact ⟨_, O, _, x, _, _, S0, e1, fun O' σ' H' S' => q _ H' (same S') S'.tb (S'.row ra rfl).2.2 .non⟩
      · cases e
    · cases e
/-- a def that may be called -/
structure Callee (P : Program) (ω : World) (K : PySem.W.Frag) (mg : Str → Option Value) (base : Heap) (k : Nat) (n : Str) (sp : Sp) : Prop where
  ex : ∃ (f : Addr) (fd : FuncData) (ps : List Str), FnOk P ω K mg base CX0 k f fd ps sp ∧ mg n = some (.ref f) ∧ PySem.W.keepIn K (.ref f) = true ∧ Binds K fd ps []
theorem Callee.mono {k j : Nat} {n : Str} {sp : Sp} (c : Callee P ω K mg base k n sp) (h : k ≤ j) : Callee P ω K mg base j n sp := by
  obtain ⟨f, fd, ps, a, b, c, d⟩ := c.ex
  exact ⟨f, fd, ps, a.mono h, b, c, d⟩
end
section
variable {X : Cx} {a b c e : Expr} {es : List Expr} {fa fb fc f : FE} {pos : Pos}
def fCall (m : List D → Option D) (fa : FA) : FE := fun env x => match fa env x with
  | some (ds, x1) => match m ds with
    | some d => some (d, x1)
    | none => none
  | none => none
theorem se_call {k : Nat} {n : Str} {p : Pos} {m : List D → Option D} {fa : FA} (c : Callee X.prog X.w X.K X.mg X.base k n (spF X.K m)) (hr : Room k X.A) (hg : Gl X n) (ha : SA X (e :: es) fa) (hdb : (n == ("__debug__" : Str)) = false := by decide)
    (he : starEach (e :: es) X.env = (false, eval e X.env) :: starEach es X.env := by rfl) (hpl : (backTo pos (starEach es X.env)).any (·.1) = false := by rfl) : SE X (.Call (.Name n p) (e :: es) [] pos) (fCall m fa) := by
  obtain ⟨f, fd, ps, F, hm, hk, hb⟩ := c.ex
  refine ⟨PEw (pe_call F hr hg hm hk hb .nil pass0 ha.out hdb he hpl) fun σ H Q h => ?_⟩
  obtain ⟨g, O, env, x, d, x', S, e, k⟩ := h
  unfold fCall at e
  split at e
  · rename_i ds x1 e1
    split at e
    · rename_i d1 e2
      cases e
      refine ⟨g, O, env, x, ds, x', S, e1, fun vs H1 S1 l1 r1 => ?_⟩
      show spF X.K m (vs ++ []) H1 Q E0
      rw [List.append_nil]
      exact ⟨g.T, O, ds, d, S1.tk, S1.tb, S1.dom, r1, e2, fun v H2 sm r2 => k v H2 (S1.sameT sm) (l1.trans (.ofT sm)) r2⟩
    · cases e
  · cases e
def fCallR (i : Nat) (m : List D → FRow → Option (D × FRow)) (fa : FA) : FE := fun env x => match env[i]? with
  | some .rw => match fa env x with
    | some (ds, x1) => m ds x1
    | none => none
  | _ => none
theorem se_callR {k i : Nat} {n r : Str} {p p1 : Pos} {m : List D → FRow → Option (D × FRow)} {fa : FA} (c : Callee X.prog X.w X.K X.mg X.base k n (spR X.K m)) (hr : Room k X.A) (hg : Gl X n) (ha : SA X es fa) (hdb : (n == ("__debug__" : Str)) = false := by decide)
    (he : starEach (.Name r p1 :: es) X.env = (false, eval (.Name r p1) X.env) :: starEach es X.env := by rfl) (hpl : (backTo pos (starEach es X.env)).any (·.1) = false := by rfl)
    (hN : X.N[i]? = some r := by rfl) (hvis : Vis X.env.scope r := by first | exact Or.inl rfl | exact Or.inr (Or.inl rfl) | exact Or.inr (Or.inr rfl)) (hd : (r == ("__debug__" : Str)) = false := by decide)
    (hcd : (r == ("__classdict__" : Str)) = false := by decide) : SE X (.Call (.Name n p) (.Name r p1 :: es) [] pos) (fCallR i m fa) := by
  obtain ⟨f, fd, ps, F, hm, hk, hb⟩ := c.ex
  refine ⟨PEw (pe_call F hr hg hm hk hb .nil pass0 (pa_cons (pe_var hN hvis hd hcd) ha.out he) hdb he hpl) fun σ H Q h => ?_⟩
  obtain ⟨g, O, env, x, d, x', S, e, k⟩ := h
  unfold fCallR at e
  split at e
  · rename_i e0
    split at e
    · rename_i ds x1 e1
      obtain ⟨s, e5, q5⟩ := S.at e0
      cases q5 with
      | @rw ra hR =>
        refine ⟨_, e5, g, O, env, x, ds, x1, S, e1, fun vs H1 S1 l1 r1 => ?_⟩
        show spR X.K m ((.ref ra :: vs) ++ []) H1 Q E0
        rw [List.append_nil]
        obtain ⟨q1, q2, q3⟩ := S1.row ra hR
        refine ⟨g.T, O, ra, vs, ds, x1, d, x', S1.tk, S1.tb, S1.dom, S1.sub _ q1, rfl, q3, r1, e, fun v H2 kp tb2 rt r2 => ?_⟩
        have l2 : Le g H1 H2 := fun a o n e t => kp a o (fun z => n (by rw [z]; exact hR)) e t
        exact k v H2 (S1.step l2 tb2 fun r hr => by rw [hR] at hr; cases hr; exact rt) (l1.trans l2) r2
    · cases e
  · cases e
/-! ### the row -/
def fRow (i : Nat) (k : Int) : FE := fun env x => match env[i]? with
  | some .rw => if k = 1 then some (.int x.a, x) else if k = 2 then some (.int x.b, x) else if k = 3 then some (.int x.c, x) else none
  | _ => none
theorem se_row {i j : Nat} {k : Int} {n : Str} {p p1 : Pos} (hN : X.N[i]? = some n := by rfl) (hvis : Vis X.env.scope n := by first | exact Or.inl rfl | exact Or.inr (Or.inl rfl) | exact Or.inr (Or.inr rfl)) (hd : (n == ("__debug__" : Str)) = false := by decide)
    (hcd : (n == ("__classdict__" : Str)) = false := by decide) : SE X (.Subscript (.Name n p) (.Constant (.int k) j p1) pos) (fRow i k) := by
  refine ⟨PEw (pe_ix ix_list (pe_var hN hvis hd hcd) pe_int (fun _ _ => rfl)) fun σ H Q h => ?_⟩
  obtain ⟨g, O, env, x, d, x', S, e, kk⟩ := h
  unfold fRow at e
  split at e
  · rename_i e0
    obtain ⟨s, e5, q5⟩ := S.at e0
    cases q5 with
    | @rw ra hR =>
      obtain ⟨q1, q2, a0, q3, q4⟩ := S.row ra hR
      split at e
      · rename_i hk
        cases e
        subst hk
        exact ⟨_, e5, ra, _, 1, _, rfl, rfl, .of q3, rfl, kk _ _ S (Le.refl _ _) (.int _)⟩
      · split at e
        · rename_i hk
          cases e
          subst hk
          exact ⟨_, e5, ra, _, 2, _, rfl, rfl, .of q3, rfl, kk _ _ S (Le.refl _ _) (.int _)⟩
        · split at e
          · rename_i hk
            cases e
            subst hk
            exact ⟨_, e5, ra, _, 3, _, rfl, rfl, .of q3, rfl, kk _ _ S (Le.refl _ _) (.int _)⟩
          · cases e
  · cases e
theorem RowAt.seq {K : PySem.W.Frag} {H : Hp} {r : Addr} {x : FRow} (h : RowAt K H r x) : ∃ a0, H r = some (.lst [.ref a0, .int x.a, .int x.b, .int x.c]) ∧ SqL K H a0 (x.ns.map V.int) := by
  obtain ⟨a0, e, q⟩ := h
  refine ⟨a0, e, ?_⟩
  rcases q with ⟨o, q⟩ | q
  · exact .inl (.inr ⟨o, q⟩)
  · rcases q with (q | ⟨o, q⟩) | q
    · cases q
    · cases q
    · exact .inr q
/-- len(row[0]) -/
def fRowLen (i : Nat) : FE := fun env x => match env[i]? with
  | some .rw => some (.int x.ns.length, x)
  | _ => none
theorem se_rowlen {i j : Nat} {n : Str} {p p0 p1 p2 : Pos} (hg : Gl X "len") (hm : X.mg "len" = none) (hN : X.N[i]? = some n := by rfl) (hvis : Vis X.env.scope n := by first | exact Or.inl rfl | exact Or.inr (Or.inl rfl) | exact Or.inr (Or.inr rfl)) (hd : (n == ("__debug__" : Str)) = false := by decide)
    (hcd : (n == ("__classdict__" : Str)) = false := by decide)
    (hs : starEach [.Subscript (.Name n p) (.Constant (.int 0) j p1) p2] X.env = (false, eval (.Subscript (.Name n p) (.Constant (.int 0) j p1) p2) X.env) :: starEach [] X.env := by rfl) : SE X (.Call (.Name "len" p0) [.Subscript (.Name n p) (.Constant (.int 0) j p1) p2] [] pos) (fRowLen i) := by
  refine ⟨PEw (pe_callB call_len_seq hg hm PySem.boot_len (pa_cons (pe_ix ix_list (pe_var hN hvis hd hcd) pe_int (fun _ _ => rfl)) pa_nil hs) (by decide) (by decide) hs) fun σ H Q h => ?_⟩
  obtain ⟨g, O, env, x, d, x', S, e, kk⟩ := h
  unfold fRowLen at e
  split at e
  · rename_i e0
    cases e
    obtain ⟨s, e5, q5⟩ := S.at e0
    cases q5 with
    | @rw ra hR =>
      obtain ⟨a0, q3, q4⟩ := (S.row ra hR).2.2.seq
      refine ⟨_, e5, ra, _, 0, _, rfl, rfl, .of q3, rfl, a0, _, rfl, .inl q4, ?_⟩
      rw [List.length_map]
      exact kk _ _ S (Le.refl _ _) (.int _)
  · cases e
/-- row[0][e] -/
def fRowAt (i : Nat) (f : FE) : FE := fun env x => match env[i]? with
  | some .rw => match f env x with
    | some (.int k, x1) => match atI x.ns k with
      | some z => some (.int z, x1)
      | none => none
    | _ => none
  | _ => none
theorem atI_map {α β : Type} {f : α → β} {l : List α} {i : Int} {z : α} (h : atI l i = some z) : atI (l.map f) i = some (f z) := by
  unfold atI at h ⊢
  rw [List.length_map]
  cases q : ixN l.length i with
  | none => rw [q] at h; cases h
  | some j =>
    rw [q] at h
    show (l.map f)[j]? = some (f z)
    have h : l[j]? = some z := h
    rw [List.getElem?_map, h]
    rfl
theorem se_rowat {i j : Nat} {n : Str} {f : FE} {p p1 p2 : Pos} (hb : SE X b f) (hs : PlainIx b := by exact fun _ _ => rfl) (hN : X.N[i]? = some n := by rfl) (hvis : Vis X.env.scope n := by first | exact Or.inl rfl | exact Or.inr (Or.inl rfl) | exact Or.inr (Or.inr rfl)) (hd : (n == ("__debug__" : Str)) = false := by decide)
    (hcd : (n == ("__classdict__" : Str)) = false := by decide) : SE X (.Subscript (.Subscript (.Name n p) (.Constant (.int 0) j p1) p2) b pos) (fRowAt i f) := by
  refine ⟨PEw (pe_ix ix_list (pe_ix ix_list (pe_var hN hvis hd hcd) pe_int (fun _ _ => rfl)) hb.out hs) fun σ H Q h => ?_⟩
  obtain ⟨g, O, env, x, d, x', S, e, kk⟩ := h
  unfold fRowAt at e
  split at e
  · rename_i e0
    split at e
    · rename_i k x1 e1
      split at e
      · rename_i z e2
        cases e
        obtain ⟨s, e5, q5⟩ := S.at e0
        cases q5 with
        | @rw ra hR =>
          obtain ⟨a0, q3, q4⟩ := (S.row ra hR).2.2
          refine ⟨_, e5, ra, _, 0, _, rfl, rfl, .of q3, rfl, g, O, env, x, _, x', S, e1, fun v H1 S1 l1 r1 => ?_⟩
          cases r1
          have nra : g.R ≠ some a0 ∨ SqL X.K (fun _ => none) a0 (x.ns.map V.int) := by
            rcases q4 with ⟨o, q4⟩ | q4
            · refine .inl fun z => ?_
              rw [hR] at z
              cases z
              rw [q3] at q4; cases q4
            · exact .inr q4
          refine ⟨a0, x.ns.map V.int, k, _, rfl, rfl, ?_, atI_map e2, kk _ _ S1 l1 (.int _)⟩
          rcases nra with nra | q5
          · rcases q4 with ⟨o, q4⟩ | q4
            · exact .inl (.inr ⟨o, l1 a0 _ nra q4 rfl⟩)
            · rcases q4 with (q4 | ⟨o, q4⟩) | q4
              · cases q4
              · cases q4
              · exact .inr q4
          · rcases q5 with (q5 | ⟨o, q5⟩) | q5
            · cases q5
            · cases q5
            · exact .inr q5
      · cases e
    · cases e
  · cases e
end
end RT

namespace RT
open PySem PySem.Spec PyProof.Rows L2
/-! ### built-ins, by borrowed arguments -/
def tBs (ω : World) (K : PySem.W.Frag) (f : FA) : TA := fun σ H Q => ∃ g O env x d x', FSt ω K g O σ H env x ∧ f env x = some (d, x') ∧
  ∀ v H', FSt ω K g O σ H' env x' → Le g H H' → Paired (RpB K g O H') v d → Q v H'
structure SBs (X : Cx) (e : List Expr) (f : FA) : Prop where
  out : PA X e (tBs X.w X.K f)
theorem call_lenDR {X : Cx} : CallR X (.builtin "len") (fun xs H Q => ∃ a kvs, xs = [V.ref a] ∧ L2.Rd H a (.dK kvs) ∧ Q (.int kvs.length) H) := by
  intro pins s σ H xs us Q I r h
  obtain ⟨a, kvs, rfl, ha, q⟩ := h
  obtain ⟨u, rfl, ru⟩ := vals1 r
  cases ru
  exact d_len I ha fun t s' I' => ⟨.int kvs.length, H, I', ⟨t, rfl⟩, q⟩
theorem call_listDR {X : Cx} (hc : X.calm = true) : CallR X (.type "list") (fun xs H Q => ∃ p kvs, xs = [V.ref p] ∧ L2.Rd H p (.dK kvs) ∧ ∀ q, H q = none → Q (.ref q) (upd H q (.lst (kvs.map fun kv => kV kv.1)))) := by
  intro pins s σ H xs us Q I r h
  obtain ⟨p, kvs, e, hk, q⟩ := h
  subst e
  obtain ⟨u, eu, rx⟩ := vals1 r
  subst eu
  obtain rfl : u = Value.ref p := rx
  have ok : ObjOk X.prog X.w H s.heap p (.dK kvs) := hk.elim (fun hk => I.hok p _ hk) fun ⟨_, hk⟩ => (I.hok p _ hk).2
  obtain ⟨z, lo, vs, rk, hd⟩ := ok
  obtain ⟨ep, hat⟩ := hd.dictAt
  have hl : kvs.length = vs.length := Paired.length rk
  refine PySem.W.kdl_call (PySem.W.kdl_dict (knd := mixKind X.prog X.w) (kvs := vs) (ep := ep) lo) (I.ok.hd hc) hat (by rw [← hl]; exact z) fun h' tk acc' c' hkeep hS hacc => ?_
  refine ⟨.ref s.heap.objs.size, upd H s.heap.objs.size (.lst (kvs.map fun kv => kV kv.1)), I.laid hkeep (Nat.le_refl _) (show ObjOk X.prog X.w _ _ _ (.lst (kvs.map fun kv => kV kv.1)) from ⟨?_, acc'.toList, c', ?_, ?_⟩), rfl, q _ (I.hok.fresh (Nat.le_refl _))⟩
  · rw [List.length_map]; exact z
  · have el : acc'.toList.length = acc'.size := by simp
    refine vals_of_at (by rw [List.length_map, el, hacc.1, hl]) fun j x w h1 h2 => ?_
    obtain ⟨k, y, hky, hi⟩ := hacc.2 j w (by rw [← Array.getElem?_toList]; exact h2)
    have e1 : (kvs.map (·.1))[j]? = some k := by
      rw [KV.keys rk, List.getElem?_map, hky] <;> rfl
    have e2 : (kvs.map fun kv => kV kv.1)[j]? = some (kV k) := by
      have e3 : (kvs.map fun kv => kV kv.1) = (kvs.map (·.1)).map kV := by rw [List.map_map] <;> rfl
      rw [e3, List.getElem?_map, e1] <;> rfl
    rw [e2] at h1
    cases h1
    exact keyIs_rel hi
  · rw [Array.toArray_toList]; exact hS
section
variable {X : Cx} {a b c e : Expr} {es : List Expr} {fa fb fc f : FE} {pos : Pos}
theorem sbs_nil : SBs X [] aNil := by
  refine ⟨PAw pa_nil fun σ H Q h => ?_⟩
  obtain ⟨g, O, env, x, d, x', S, e, k⟩ := h
  cases e
  exact k _ _ S (Le.refl _ _) .nil
theorem sbs_cons {f : FE} {t : FA} (h : SB X e f) (ht : SBs X es t) (hs : starEach (e :: es) X.env = (false, eval e X.env) :: starEach es X.env := by rfl) : SBs X (e :: es) (aCons f t) := by
  refine ⟨PAw (pa_cons h.out ht.out hs) fun σ H Q h => ?_⟩
  obtain ⟨g, O, env, x, d, x', S, e, k⟩ := h
  unfold aCons at e
  split at e
  · rename_i d1 x1 e1
    split at e
    · rename_i ds x2 e2
      cases e
      refine ⟨g, O, env, x, d1, x1, S, e1, fun v H1 S1 l1 r1 => ?_⟩
      refine ⟨g, O, env, x1, ds, x', S1, e2, fun vs H2 S2 l2 r2 => ?_⟩
      exact k _ _ S2 (l1.trans l2) (.cons (RpB.step S1 l2 r1) r2)
    · cases e
  · cases e
def CallD (X : Cx) (f : Value) (gd : List D → Option D) : Prop :=
  CallR X f fun vs H Q => ∃ g O σ env x ds r, FSt X.w X.K g O σ H env x ∧ Paired (RpB X.K g O H) vs ds ∧ gd ds = some r ∧ ∀ u H', Same H H' → Rp X.K O H' u r → Q u H'
theorem CallD.by {f : Value} {r : List V → Hp → VK → Prop} {gd : List D → Option D} (h : CallR X f r)
    (q : ∀ g O σ env x ds z H vs Q, FSt X.w X.K g O σ H env x → Paired (RpB X.K g O H) vs ds → gd ds = some z → (∀ u H', Same H H' → Rp X.K O H' u z → Q u H') → r vs H Q) : CallD X f gd := by
  intro pins s σ H vs us Q I rv h2
  obtain ⟨g, O, σ', env, x, ds, z, S, rr, e, k⟩ := h2
  exact h pins s σ H vs us Q I rv (q _ _ _ _ _ _ _ _ _ _ S rr e k)
theorem se_callB {id : String} {n : Str} {p : Pos} {gd : List D → Option D} {fa : FA} (hc : CallD X (.builtin id) gd) (hg : Gl X n) (hm : X.mg n = none) (hv : bootBuiltins n = some (.builtin id)) (ha : SBs X (e :: es) fa) (hn : n ≠ "__name__" := by decide) (hdb : (n == ("__debug__" : Str)) = false := by decide)
    (he : starEach (e :: es) X.env = (false, eval e X.env) :: starEach es X.env := by rfl) (hpl : (backTo pos (starEach es X.env)).any (·.1) = false := by rfl) : SE X (.Call (.Name n p) (e :: es) [] pos) (fCall gd fa) := by
  refine ⟨PEw (pe_callB hc hg hm hv ha.out hn hdb he hpl) fun σ H Q h => ?_⟩
  obtain ⟨g, O, env, x, d, x', S, e, k⟩ := h
  unfold fCall at e
  split at e
  · rename_i ds x1 e1
    split at e
    · rename_i d1 e2
      cases e
      exact ⟨g, O, env, x, ds, x', S, e1, fun vs H1 S1 l1 r1 => ⟨g, O, σ, env, x', ds, d, S1, r1, e2, fun u H2 sm r2 => k u H2 (S1.same sm) (l1.trans (.of sm)) r2⟩⟩
    · cases e
  · cases e
theorem se_callTy {T : String} {n : Str} {p : Pos} {gd : List D → Option D} {fa : FA} (hc : CallD X (.type T) gd) (hg : Gl X n) (hm : X.mg n = none) (hv : bootBuiltins n = some (.type T)) (ha : SBs X (e :: es) fa) (hn : n ≠ "__name__" := by decide) (hdb : (n == ("__debug__" : Str)) = false := by decide)
    (he : starEach (e :: es) X.env = (false, eval e X.env) :: starEach es X.env := by rfl) (hpl : (backTo pos (starEach es X.env)).any (·.1) = false := by rfl) : SE X (.Call (.Name n p) (e :: es) [] pos) (fCall gd fa) := by
  refine ⟨PEw (pe_callTy hc hg hm hv ha.out hn hdb he hpl) fun σ H Q h => ?_⟩
  obtain ⟨g, O, env, x, d, x', S, e, k⟩ := h
  unfold fCall at e
  split at e
  · rename_i ds x1 e1
    split at e
    · rename_i d1 e2
      cases e
      exact ⟨g, O, env, x, ds, x', S, e1, fun vs H1 S1 l1 r1 => ⟨g, O, σ, env, x', ds, d, S1, r1, e2, fun u H2 sm r2 => k u H2 (S1.same sm) (l1.trans (.of sm)) r2⟩⟩
    · cases e
  · cases e
def gLen : List D → Option D
  | [.list ds] => some (.int ds.length)
  | [.tuple ds] => some (.int ds.length)
  | [.dict ds] => some (.int ds.length)
  | [.dictT ds] => some (.int ds.length)
  | _ => none
theorem cd_len : CallD X (.builtin "len") gLen := by
  refine CallD.by ((call_len_seq.or call_lenDR).or call_len_dT) fun g O σ env x ds z H vs Q S r e k => ?_
  unfold gLen at e
  split at e
  · cases e
    cases r with
    | cons r r' =>
      cases r'
      obtain ⟨p, xs, rfl, q, rx⟩ := r.lst
      refine .inl (.inl ⟨p, xs, rfl, .inl (.of q), ?_⟩)
      rw [rx.length]
      exact k _ _ (Same.refl _) (.int _)
  · cases e
    cases r with
    | cons r r' =>
      cases r'
      obtain ⟨p, xs, rfl, q, rx⟩ := r.tup.tupAt
      refine .inl (.inl ⟨p, xs, rfl, .inr (.of q), ?_⟩)
      rw [rx.length]
      exact k _ _ (Same.refl _) (.int _)
  · cases e
    cases r with
    | cons r r' =>
      cases r'
      obtain ⟨p, xs, rfl, q, rx⟩ := r.dct
      refine .inl (.inr ⟨p, xs, rfl, q, ?_⟩)
      rw [rx.length]
      exact k _ _ (Same.refl _) (.int _)
  · cases e
    cases r with
    | cons r r' =>
      cases r'
      obtain ⟨p, xs, rfl, q, rx⟩ := r.dcT
      refine .inr ⟨p, xs, rfl, q, ?_⟩
      rw [rx.length]
      exact k _ _ (Same.refl _) (.int _)
  · cases e
def gTupOf : List D → Option D
  | [.list ds] => some (.tuple ds)
  | [.tuple ds] => some (.tuple ds)
  | _ => none
theorem cd_tuple : CallD X (.type "tuple") gTupOf := by
  refine CallD.by call_tuple_of fun g O σ env x ds z H vs Q S r e k => ?_
  unfold gTupOf at e
  split at e
  · cases e
    cases r with
    | cons r r' =>
      cases r'
      obtain ⟨p, xs, rfl, q, rx⟩ := r.lst
      refine ⟨p, xs, rfl, .inl ⟨.of q, fun l hl => ?_⟩⟩
      have sm := same_upd (o := .tup xs) hl
      exact k _ _ sm (.tup (S.notO hl) upd_same (rx.move (.of sm) .refl))
  · cases e
    cases r with
    | cons r r' =>
      cases r'
      obtain ⟨p, xs, rfl, q, rx⟩ := r.tup.tupAt
      exact ⟨p, xs, rfl, .inr ⟨.of q, k _ _ (Same.refl _) r.tup⟩⟩
  · cases e
def gListOf : List D → Option D
  | [.list ds] => some (.list ds)
  | [.tuple ds] => some (.list ds)
  | [.dict ds] => some (.list (ds.map (·.1)))
  | [.dictT ds] => some (.list (ds.map (·.1)))
  | _ => none
theorem keys_rp {K : PySem.W.Frag} {O : Addr → Prop} {H : Hp} : ∀ {kvs : List (L2.Key × V)} {ds : List (D × D)}, RpK K O H kvs ds → RpA K O H (kvs.map fun kv => kV kv.1) (ds.map (·.1))
  | _, _, .nil => .nil
  | _, _, .cons (k := k) a b => .cons (by cases k with
    | inl i => exact .int i
    | inr s => exact .str s) (keys_rp b)
theorem kVs_rp {K : PySem.W.Frag} {O : Addr → Prop} {H : Hp} : ∀ ks : List L2.Key, RpA K O H (ks.map kV) (ks.map keyD)
  | [] => .nil
  | k :: ks => .cons (by cases k with
    | inl i => exact .int i
    | inr s => exact .str s) (kVs_rp ks)
theorem keysT_rp {ω : World} {K : PySem.W.Frag} {g : FG} {O : Addr → Prop} {H : Hp} {σ : L2.St} {env : FEn} {x : FRow} (S : FSt ω K g O σ H env x) : ∀ {kvs : List (List L2.Key × V)} {ds : List (D × D)} {bs : List Addr}, RpT K O H kvs ds → IsKeys H kvs bs → RpA K O H (bs.map V.ref) (ds.map (·.1))
  | _, _, _, .nil, .nil => .nil
  | _, _, _, .cons (k := k) a b, .cons q qs => .cons (.tup (fun z => by
      have m := S.dom _ z
      rw [q] at m
      exact m) q (kVs_rp k)) (keysT_rp S b qs)
theorem cd_list (hc : X.calm = true) : CallD X (.type "list") gListOf := by
  refine CallD.by ((call_list_of.or (call_listDR hc)).or (call_list_dT hc)) fun g O σ env x ds z H vs Q S r e k => ?_
  unfold gListOf at e
  split at e
  · cases e
    cases r with
    | cons r r' =>
      cases r'
      obtain ⟨p, xs, rfl, q, rx⟩ := r.lst
      refine .inl (.inl ⟨p, xs, rfl, .inl (.of q), fun l hl => ?_⟩)
      have sm := same_upd (o := .lst xs) hl
      exact k _ _ sm (.lst (S.notO hl) upd_same (rx.move (.of sm) .refl))
  · cases e
    cases r with
    | cons r r' =>
      cases r'
      obtain ⟨p, xs, rfl, q, rx⟩ := r.tup.tupAt
      refine .inl (.inl ⟨p, xs, rfl, .inr (.of q), fun l hl => ?_⟩)
      have sm := same_upd (o := .lst xs) hl
      exact k _ _ sm (.lst (S.notO hl) upd_same (rx.move (.of sm) .refl))
  · cases e
    cases r with
    | cons r r' =>
      cases r'
      obtain ⟨p, xs, rfl, q, rx⟩ := r.dct
      refine .inl (.inr ⟨p, xs, rfl, q, fun l hl => ?_⟩)
      have sm := same_upd (o := .lst (xs.map fun kv => kV kv.1)) hl
      exact k _ _ sm (.lst (S.notO hl) upd_same ((keys_rp rx).move (.of sm) .refl))
  · cases e
    cases r with
    | cons r r' =>
      cases r'
      obtain ⟨p, xs, rfl, q, rx⟩ := r.dcT
      refine .inr ⟨p, xs, rfl, .inl q, fun l bs hl hk => ?_⟩
      have sm := same_upd (o := .lst (bs.map V.ref)) hl
      exact k _ _ sm (.lst (S.notO hl) upd_same ((keysT_rp S rx hk).move (.of sm) .refl))
  · cases e
def bools : List D → Option (List Bool)
  | [] => some []
  | .bool b :: ds => match bools ds with
    | some bs => some (b :: bs)
    | none => none
  | _ => none
theorem bools_ok : ∀ {ds : List D} {bs : List Bool}, bools ds = some bs → ds = bs.map .bool
  | [], _, h => by cases h; rfl
  | d :: ds, bs, h => by
    unfold bools at h
    split at h
    · rename_i e1; cases e1
    · rename_i e1
      cases e1
      split at h
      · rename_i q
        cases h
        rw [bools_ok q]
        rfl
      · cases h
    · cases h
def intsD : List D → Option (List Int)
  | [] => some []
  | .int b :: ds => match intsD ds with
    | some bs => some (b :: bs)
    | none => none
  | _ => none
theorem ints_ok : ∀ {ds : List D} {bs : List Int}, intsD ds = some bs → ds = bs.map .int
  | [], _, h => by cases h; rfl
  | d :: ds, bs, h => by
    unfold intsD at h
    split at h
    · rename_i e1; cases e1
    · rename_i e1
      cases e1
      split at h
      · rename_i q
        cases h
        rw [ints_ok q]
        rfl
      · cases h
    · cases h
theorem ints_map : ∀ ns : List Int, intsD (ns.map .int) = some ns
  | [] => rfl
  | n :: ns => by simp only [List.map_cons, intsD, ints_map ns]
def gAll : List D → Option D
  | [.list ds] => match bools ds with
    | some bs => some (.bool (bs.all id))
    | none => none
  | _ => none
def gAny : List D → Option D
  | [.list ds] => match bools ds with
    | some bs => some (.bool (bs.any id))
    | none => none
  | _ => none
theorem cd_all (hc : X.calm = true) : CallD X (.builtin "all") gAll := by
  refine CallD.by (cr_all hc) fun g O σ env x ds z H vs Q S r e k => ?_
  unfold gAll at e
  split at e
  · split at e
    · rename_i ds bs q
      cases e
      cases r with
      | cons r r' =>
        cases r'
        obtain ⟨p, xs, rfl, hp, rx⟩ := r.lst
        rw [bools_ok q] at rx
        rw [rx.bls] at hp
        exact ⟨p, bs, rfl, .of hp, k _ _ (Same.refl _) (.bl _)⟩
    · cases e
  · cases e
theorem cd_any (hc : X.calm = true) : CallD X (.builtin "any") gAny := by
  refine CallD.by (cr_any hc) fun g O σ env x ds z H vs Q S r e k => ?_
  unfold gAny at e
  split at e
  · split at e
    · rename_i ds bs q
      cases e
      cases r with
      | cons r r' =>
        cases r'
        obtain ⟨p, xs, rfl, hp, rx⟩ := r.lst
        rw [bools_ok q] at rx
        rw [rx.bls] at hp
        exact ⟨p, bs, rfl, .of hp, k _ _ (Same.refl _) (.bl _)⟩
    · cases e
  · cases e
def gInt : List D → Option D
  | [.int i] => some (.int i)
  | [.bool b] => some (.int (if b then 1 else 0))
  | _ => none
theorem cd_int : CallD X (.type "int") gInt := by
  refine CallD.by call_int1 fun g O σ env x ds z H vs Q S r e k => ?_
  unfold gInt at e
  split at e
  · cases e
    cases r with
    | cons r r' =>
      cases r'
      exact .inl ⟨_, by rw [r.int], k _ _ (Same.refl _) (.int _)⟩
  · cases e
    cases r with
    | cons r r' =>
      cases r'
      exact .inr ⟨_, by rw [r.bl], k _ _ (Same.refl _) (.int _)⟩
  · cases e
/-! ### sorted, of intsD -/
def insI (n : Int) : List Int → List Int
  | [] => [n]
  | m :: ms => if n ≤ m then n :: m :: ms else m :: insI n ms
def sortI : List Int → List Int
  | [] => []
  | n :: ns => insI n (sortI ns)
theorem insI_perm (n : Int) : ∀ ms : List Int, (insI n ms).Perm (n :: ms)
  | [] => .refl _
  | m :: ms => by
    unfold insI
    split
    · exact .refl _
    · exact ((insI_perm n ms).cons m).trans (.swap n m ms)
theorem sortI_perm : ∀ ns : List Int, (sortI ns).Perm ns
  | [] => .refl _
  | n :: ns => (insI_perm n _).trans ((sortI_perm ns).cons n)
theorem insI_sorted (n : Int) : ∀ ms : List Int, ms.Pairwise (· ≤ ·) → (insI n ms).Pairwise (· ≤ ·)
  | [], _ => by simp [insI]
  | m :: ms, h => by
    unfold insI
    have h' := List.pairwise_cons.mp h
    split
    · rename_i hn
      refine List.pairwise_cons.mpr ⟨fun a ha => ?_, h⟩
      rcases List.mem_cons.mp ha with rfl | ha
      · exact hn
      · exact Int.le_trans hn (h'.1 a ha)
    · rename_i hn
      refine List.pairwise_cons.mpr ⟨fun a ha => ?_, insI_sorted n ms h'.2⟩
      rcases List.mem_cons.mp ((insI_perm n ms).mem_iff.mp ha) with rfl | ha
      · omega
      · exact h'.1 a ha
theorem sortI_sorted : ∀ ns : List Int, (sortI ns).Pairwise (· ≤ ·)
  | [] => .nil
  | n :: ns => insI_sorted n _ (sortI_sorted ns)
theorem sorted_uniq : ∀ {l m : List Int}, l.Perm m → l.Pairwise (· ≤ ·) → m.Pairwise (· ≤ ·) → l = m
  | [], m, h, _, _ => h.nil_eq
  | x :: l, [], h, _, _ => absurd h.length_eq (by simp)
  | x :: l, y :: m, h, hl, hm => by
    have hl' := List.pairwise_cons.mp hl
    have hm' := List.pairwise_cons.mp hm
    have e : x = y := by
      have h1 : y ≤ x := by
        rcases List.mem_cons.mp (h.mem_iff.mp List.mem_cons_self) with e | e
        · omega
        · exact hm'.1 x e
      have h2 : x ≤ y := by
        rcases List.mem_cons.mp (h.mem_iff.mpr List.mem_cons_self) with e | e
        · omega
        · exact hl'.1 y e
      omega
    subst e
    rw [sorted_uniq h.cons_inv hl'.2 hm'.2]
def gSortI : List D → Option D
  | [.list ds] => match intsD ds with
    | some ns => some (.list ((sortI ns).map .int))
    | none => none
  | _ => none
theorem cd_sorted : CallD X (.builtin "sorted") gSortI := by
  refine CallD.by cr_sortedI fun g O σ env x ds z H vs Q S r e k => ?_
  unfold gSortI at e
  split at e
  · split at e
    · rename_i ds ns q
      cases e
      cases r with
      | cons r r' =>
        cases r'
        obtain ⟨p, xs, rfl, hp, rx⟩ := r.lst
        rw [ints_ok q] at rx
        rw [rx.ints] at hp
        refine ⟨p, ns, rfl, .of hp, fun ns' l h1 h2 hl => ?_⟩
        have e2 : ns' = sortI ns := sorted_uniq (h1.trans (sortI_perm ns).symm) h2 (sortI_sorted ns)
        subst e2
        have sm := same_upd (o := .lst ((sortI ns).map V.int)) hl
        exact k _ _ sm (.lst (S.notO hl) upd_same (RpA.ofInts _))
    · cases e
  · cases e
def gSum : List D → Option D
  | [.list ds] => match intsD ds with
    | some ns => some (.int ns.sum)
    | none => none
  | _ => none
theorem cd_sum (hc : X.calm = true) : CallD X (.builtin "sum") gSum := by
  refine CallD.by (cr_sum hc) fun g O σ env x ds z H vs Q S r e k => ?_
  unfold gSum at e
  split at e
  · split at e
    · rename_i ds ns q
      cases e
      cases r with
      | cons r r' =>
        cases r'
        obtain ⟨p, xs, rfl, hp, rx⟩ := r.lst
        rw [ints_ok q] at rx
        rw [rx.ints] at hp
        exact ⟨p, ns, rfl, .of hp, k _ _ (Same.refl _) (.int _)⟩
    · cases e
  · cases e
def maxI : Int → List Int → Int
  | m, [] => m
  | m, n :: ns => maxI (if m < n then n else m) ns
theorem maxI_le : ∀ (ns : List Int) (m : Int), m ≤ maxI m ns ∧ (∀ n ∈ ns, n ≤ maxI m ns) ∧ (maxI m ns = m ∨ maxI m ns ∈ ns)
  | [], m => ⟨Int.le_refl _, fun n h => (by cases h), .inl rfl⟩
  | n :: ns, m => by
    unfold maxI
    obtain ⟨h1, h2, h3⟩ := maxI_le ns (if m < n then n else m)
    refine ⟨?_, fun k hk => ?_, ?_⟩
    · split at h1 <;> rename_i q
      · rw [if_pos q]; omega
      · rw [if_neg q]; omega
    · rcases List.mem_cons.mp hk with rfl | hk
      · split at h1 <;> rename_i q
        · rw [if_pos q]; omega
        · rw [if_neg q]; omega
      · exact h2 k hk
    · rcases h3 with h3 | h3
      · rw [h3]
        split
        · exact .inr List.mem_cons_self
        · exact .inl rfl
      · exact .inr (List.mem_cons_of_mem _ h3)
def gMax : List D → Option D
  | [.list ds] => match intsD ds with
    | some (n :: ns) => some (.int (maxI n ns))
    | _ => none
  | _ => none
theorem cd_max (hc : X.calm = true) : CallD X (.builtin "max") gMax := by
  refine CallD.by (cr_max hc) fun g O σ env x ds z H vs Q S r e k => ?_
  unfold gMax at e
  split at e
  · split at e
    · rename_i ds n ns q
      cases e
      cases r with
      | cons r r' =>
        cases r'
        obtain ⟨p, xs, rfl, hp, rx⟩ := r.lst
        rw [ints_ok q] at rx
        rw [rx.ints] at hp
        refine ⟨p, n :: ns, rfl, .of hp, by simp, fun m hm hle => ?_⟩
        obtain ⟨h1, h2, h3⟩ := maxI_le ns n
        have e2 : m = maxI n ns := by
          have a1 : maxI n ns ≤ m := by
            rcases h3 with h3 | h3
            · rw [h3]; exact hle n List.mem_cons_self
            · exact hle _ (List.mem_cons_of_mem _ h3)
          have a2 : m ≤ maxI n ns := by
            rcases List.mem_cons.mp hm with rfl | hm
            · exact h1
            · exact h2 m hm
          omega
        rw [e2]
        exact k _ _ (Same.refl _) (.int _)
    · cases e
  · cases e
/-! ### isinstance -/
inductive Ty where
  | int | bool | str | tuple | list | dict
def Ty.nm : Ty → String
  | .int => "int"
  | .bool => "bool"
  | .str => "str"
  | .tuple => "tuple"
  | .list => "list"
  | .dict => "dict"
def isiD : Ty → D → Option Bool
  | _, .sets _ => none
  | .int, .int _ => some true
  | .int, .bool _ => some true
  | .bool, .bool _ => some true
  | .str, .str _ => some true
  | .tuple, .tuple _ => some true
  | .list, .list _ => some true
  | .dict, .dict _ => some true
  | .dict, .dictT _ => some true
  | _, _ => some false
def tyD : D → String
  | .none => "NoneType"
  | .bool _ => "bool"
  | .int _ => "int"
  | .str _ => "str"
  | .list _ => "list"
  | .tuple _ => "tuple"
  | .dict _ => "dict"
  | .dictT _ => "dict"
  | .sets _ => "set"
theorem kit_all : ∀ (T : Ty) (n : String), n ∈ ["NoneType", "bool", "int", "str", "list", "tuple", "dict"] → kitB n T.nm = some (decide (n = T.nm) || decide (n = "bool" ∧ T.nm = "int")) := by
  intro T n h
  simp only [List.mem_cons, List.not_mem_nil, or_false] at h
  rcases h with rfl | rfl | rfl | rfl | rfl | rfl | rfl <;> cases T <;> decide +kernel
theorem kit_isi {T : Ty} {d : D} {b : Bool} (h : isiD T d = some b) : kitB (tyD d) T.nm = some b := by
  cases d with
  | sets ns => cases T <;> simp [isiD] at h
  | _ => (rw [kit_all T _ (by simp [tyD])]; rw [← h]; cases T <;> simp [tyD, Ty.nm, isiD])
theorem ty_of {K : PySem.W.Frag} {g : FG} {O : Addr → Prop} {H : Hp} {v : V} {d : D} (r : RpB K g O H v d) : TyX K H v (.type (tyD d)) := by
  rcases r with r | ⟨a, w, rfl, rfl, ha, hr, z⟩
  · cases r with
    | non => exact .base .non
    | bl b => exact .base (.bl b)
    | int i => exact .base (.int i)
    | str x => exact .base (.str x)
    | lst _ e _ => exact .base (.lst e)
    | tup _ e _ => exact .base (.tup e)
    | dK _ e _ => exact e.elim (fun e => .base (.dK e)) fun ⟨_, e⟩ => .fDict e
    | dT _ e _ => exact .base (.dT e)
  · cases w with
    | lst ds => obtain ⟨xs, e, _⟩ := z; exact .base (.lst e)
    | dk ds => obtain ⟨xs, e, _⟩ := z; exact .base (.dK e)
    | dt ds => obtain ⟨xs, e, _⟩ := z; exact .base (.dT e)
def fIsi (T : Ty) (f : FE) : FE := fun env x => match f env x with
  | some (d, x1) => match isiD T d with
    | some b => some (.bool b, x1)
    | none => none
  | none => none
theorem se_isi {T : Ty} {n : Str} {p p1 : Pos} (hg : Gl X "isinstance") (hm : X.mg "isinstance" = none) (ha : SB X a fa) (hgT : Gl X n) (hmT : X.mg n = none) (hvT : bootBuiltins n = some (.type T.nm)) (hnT : n ≠ "__name__" := by decide) (hdT : (n == ("__debug__" : Str)) = false := by decide)
    (he : starEach [a, .Name n p1] X.env = (false, eval a X.env) :: starEach [.Name n p1] X.env := by rfl) (he2 : starEach [.Name n p1] X.env = (false, eval (.Name n p1) X.env) :: starEach [] X.env := by rfl) (hpl : (backTo pos (starEach [.Name n p1] X.env)).any (·.1) = false := by rfl) :
    SE X (.Call (.Name "isinstance" p) [a, .Name n p1] [] pos) (fIsi T fa) := by
  refine ⟨PEw (pe_callB call_isi hg hm (by decide +kernel) (pa_cons ha.out (pa_cons (pe_bltn (v := .ty T.nm) hgT hmT hvT rfl hnT hdT) pa_nil he2) he) (by decide) (by decide) he hpl) fun σ H Q h => ?_⟩
  obtain ⟨g, O, env, x, d, x', S, e, k⟩ := h
  unfold fIsi at e
  split at e
  · rename_i dd x1 e1
    split at e
    · rename_i b e2
      cases e
      exact ⟨g, O, env, x, dd, x', S, e1, fun v H1 S1 l1 r1 => ⟨v, .ty T.nm, _, _, b, rfl, .ty _, ty_of r1, kit_ty (kit_isi e2), k _ _ S1 l1 (.bl b)⟩⟩
    · cases e
  · cases e
def fIsi2 (T U : Ty) (f : FE) : FE := fun env x => match f env x with
  | some (d, x1) => match isiD T d, isiD U d with
    | some b, some c => some (.bool (b || c), x1)
    | _, _ => none
  | none => none
theorem se_isi2 {T U : Ty} {n m : Str} {p p1 p2 p3 : Pos} {kk : Nat} (hg : Gl X "isinstance") (hm : X.mg "isinstance" = none) (ha : SB X a fa) (hgT : Gl X n) (hmT : X.mg n = none) (hvT : bootBuiltins n = some (.type T.nm)) (hgU : Gl X m) (hmU : X.mg m = none) (hvU : bootBuiltins m = some (.type U.nm))
    (hnT : n ≠ "__name__" := by decide) (hdT : (n == ("__debug__" : Str)) = false := by decide) (hnU : m ≠ "__name__" := by decide) (hdU : (m == ("__debug__" : Str)) = false := by decide)
    (he : starEach [a, .Tuple [.Name n p1, .Name m p2] kk p3] X.env = (false, eval a X.env) :: starEach [.Tuple [.Name n p1, .Name m p2] kk p3] X.env := by rfl) (he2 : starEach [.Tuple [.Name n p1, .Name m p2] kk p3] X.env = (false, eval (.Tuple [.Name n p1, .Name m p2] kk p3) X.env) :: starEach [] X.env := by rfl)
    (he3 : starEach [.Name n p1, .Name m p2] X.env = (false, eval (.Name n p1) X.env) :: starEach [.Name m p2] X.env := by rfl) (he4 : starEach [.Name m p2] X.env = (false, eval (.Name m p2) X.env) :: starEach [] X.env := by rfl)
    (hpl : (backTo pos (starEach [.Tuple [.Name n p1, .Name m p2] kk p3] X.env)).any (·.1) = false := by rfl) :
    SE X (.Call (.Name "isinstance" p) [a, .Tuple [.Name n p1, .Name m p2] kk p3] [] pos) (fIsi2 T U fa) := by
  refine ⟨PEw (pe_callB call_isiT hg hm (by decide +kernel) (pa_cons ha.out (pa_cons (pe_tup (pa_cons (pe_bltn (v := .ty T.nm) hgT hmT hvT rfl hnT hdT) (pa_cons (pe_bltn (v := .ty U.nm) hgU hmU hvU rfl hnU hdU) pa_nil he4) he3)) pa_nil he2) he) (by decide) (by decide) he hpl) fun σ H Q h => ?_⟩
  obtain ⟨g, O, env, x, d, x', S, e, k⟩ := h
  unfold fIsi2 at e
  split at e
  · rename_i dd x1 e1
    split at e
    · rename_i b c e2 e3
      cases e
      refine ⟨g, O, env, x, dd, x', S, e1, fun v H1 S1 l1 r1 => ⟨maxLen_ok (show 2 ≤ maxLen by decide), fun q hq => ?_⟩⟩
      have sm := same_upd (o := .tup [.ty T.nm, .ty U.nm]) hq
      refine ⟨v, q, _, _, [.type T.nm, .type U.nm], b || c, rfl, upd_same, .cons (.ty _) (.cons (.ty _) .nil), ty_of (RpB.step S1 (.of sm) r1), ?_, k _ _ (S1.same sm) (l1.trans (.of sm)) (.bl _)⟩
      refine kitAny_cons (kit_ty (kit_isi e2)) (fun hb => ?_) fun hb => by rw [hb]; rfl
      rw [hb]
      exact kitAny_cons (kit_ty (kit_isi e3)) (fun hb => by rw [hb]; exact kitAny_nil) fun hb => by rw [hb]; rfl
    · cases e
  · cases e
/-! ### a store to the row -/
def sRow (i : Nat) (k : Int) (f : FE) : FS := fun env x => match f env x with
  | some (.int z, x1) => match env[i]? with
    | some .rw => if k = 1 then some (.nx env, { x1 with a := z }) else if k = 2 then some (.nx env, { x1 with b := z }) else if k = 3 then some (.nx env, { x1 with c := z }) else none
    | _ => none
  | _ => none
theorem row_put {ω : World} {K : PySem.W.Frag} {g : FG} {O : Addr → Prop} {σ : L2.St} {H : Hp} {env : FEn} {x x' : FRow} {r : Addr} {xs : List V} (S : FSt ω K g O σ H env x) (hR : g.R = some r) (rt : RowAt K (upd H r (.lst xs)) r x') : FSt ω K g O σ (upd H r (.lst xs)) env x' :=
  have ⟨_, h1, _⟩ := (S.row r hR).2.2
  S.step (fun a o n e _ => by rw [upd_ne (fun z => n (by rw [z]; exact hR))]; exact e) (tabs_upd S.tb h1 rfl notC_lst) fun q hq => by rw [hR] at hq; cases hq; exact rt
theorem rowAt_upd {K : PySem.W.Frag} {H : Hp} {r a0 : Addr} {ns : List Int} {i j l : Int} {ys : List V} (h : H r = some (.lst ys)) (q : (∃ o, H a0 = some (.frz o (.lst (ns.map V.int)))) ∨ SqL K (fun _ => none) a0 (ns.map V.int)) : RowAt K (upd H r (.lst [.ref a0, .int i, .int j, .int l])) r ⟨ns, i, j, l⟩ := by
  refine ⟨a0, upd_same, ?_⟩
  rcases q with ⟨o, q⟩ | q
  · refine .inl ⟨o, ?_⟩
    rw [upd_ne (show a0 ≠ r from fun z => by rw [z, h] at q; cases q)]
    exact q
  · exact .inr q
theorem ss_row {i j : Nat} {k : Int} {n : Str} {f : FE} {p p1 pos' : Pos} (he : SE X e f) (hs : swapsWithSole [.Subscript (.Name n p) (.Constant (.int k) j p1) pos'] e pos.line X.env = pure false := by rfl) (hw : swappedStores [.Subscript (.Name n p) (.Constant (.int k) j p1) pos'] e X.env = pure none := by rfl)
    (h1 : (assignEach [.Subscript (.Name n p) (.Constant (.int k) j p1) pos'] X.env).map (·.2) = [assign (.Subscript (.Name n p) (.Constant (.int k) j p1) pos') X.env] := by rfl)
    (hN : X.N[i]? = some n := by rfl) (hvis : Vis X.env.scope n := by first | exact Or.inl rfl | exact Or.inr (Or.inl rfl) | exact Or.inr (Or.inr rfl)) (hd : (n == ("__debug__" : Str)) = false := by decide)
    (hcd : (n == ("__classdict__" : Str)) = false := by decide) : SS X (.Assign [.Subscript (.Name n p) (.Constant (.int k) j p1) pos'] e pos) (sRow i k f) := by
  refine ⟨PSw (ps_asg he.out (pg_sub (pe_var hN hvis hd hcd) pe_int set_list) hs hw h1) fun Dn σ H h => ?_⟩
  obtain ⟨g, O, env, x, r, x', S, e, kk⟩ := h
  unfold sRow at e
  split at e
  · rename_i z x1 e1
    split at e
    · rename_i e0
      refine ⟨g, O, env, x, _, x1, S, e1, fun v H1 S1 l1 r1 => ?_⟩
      cases r1
      obtain ⟨s, e5, q5⟩ := S1.at e0
      cases q5 with
      | @rw ra hR =>
        obtain ⟨q1, q2, a0, q3, q4⟩ := S1.row ra hR
        split at e
        · rename_i hk
          cases e
          subst hk
          exact ⟨_, e5, ra, _, 1, 1, rfl, rfl, q3, rfl, kk O _ _ (row_put S1 hR (rowAt_upd q3 q4))⟩
        · split at e
          · rename_i hk
            cases e
            subst hk
            exact ⟨_, e5, ra, _, 2, 2, rfl, rfl, q3, rfl, kk O _ _ (row_put S1 hR (rowAt_upd q3 q4))⟩
          · split at e
            · rename_i hk
              cases e
              subst hk
              exact ⟨_, e5, ra, _, 3, 3, rfl, rfl, q3, rfl, kk O _ _ (row_put S1 hR (rowAt_upd q3 q4))⟩
            · cases e
    · cases e
  · cases e
end
end RT

namespace RT
open PySem PySem.Spec PyProof.Rows L2
/-! ### enumerate of a list, of a tuple -/
set_option maxHeartbeats 2000000 in
theorem meets_enum1 {v : Value} {o : Obj} {Hh : Heap → Prop} (B : Begins v o Hh) :
    Meets (Builtin.«enumerate.__new__» ⟨[.type "enumerate", v], []⟩) (fun _ R s => Hh s.heap ∧
      R (.ok (.ret (.ref (s.heap.push o).objs.size))) { s with heap := (s.heap.push o).push { cls := .type "enumerate", data := .fields #[.none, .bool false, .ref s.heap.objs.size, rawInt 0, .none, .none] } }) := by
  refine .of_wp fun prog w A R s h => ?_
  obtain ⟨hp, gg, dd, tk, os⟩ := s
  obtain ⟨h1, h⟩ := h
  have hsub := sub_enumerate
  have q1 : ∀ {A' : Around} {E : Value → Shared → Prop} {Q : Value → Shared → Prop}, Q (.ref hp.objs.size) ⟨hp.push o, gg, dd, tk, os⟩ → wpAny (model prog w) A' (pyIter v) Q E ⟨hp, gg, dd, tk, os⟩ := fun q => B.iter prog w _ _ ⟨hp, gg, dd, tk, os⟩ _ h1 q
  wp_walk using q1
  refine wpAny_stack_any fun st => wpAny_pure ?_
  split
  · rename_i c _ _ _ _ _
    cases (c == Value.type "enumerate") <;>
      (wp_walk using q1
       exact ⟨_, rfl, h⟩)
  · wp_walk using q1
    exact ⟨_, rfl, h⟩
theorem call_enum1 {prog : Program} {w : World} {A : Around} {E : Value → Shared → Prop} {s : Shared} {v : Value} {o : Obj} {Hh : Heap → Prop} {Q : Value → Shared → Prop} (B : Begins v o Hh) (h1 : Hh s.heap)
    (h : ∀ h', IsEnum h' (s.heap.objs.size + 1) s.heap.objs.size 0 .none → h'.get? s.heap.objs.size = some o → h'.objs.size = s.heap.objs.size + 2 → (∀ b o, s.heap.get? b = some o → h'.get? b = some o) → Q (.ref (s.heap.objs.size + 1)) { s with heap := h' }) :
    wpAny (model prog w) A (call (.type "enumerate") [v]) Q E s := by
  refine callType_new F.called_enumerate (by decide) (F.typeCall_enumerate_1 _) (F.newCall_enumerate_1 _) (fun obj => F.args_object_init_2 obj _) F.entry_enumerate_new (meets_enum1 B) ⟨h1, ?_⟩
  have hz : (s.heap.push o).objs.size = s.heap.objs.size + 1 := Heap.size_push ..
  show _ ∧ _
  rw [hz]
  have he : IsEnum ((s.heap.push o).push { cls := .type "enumerate", data := .fields #[.none, .bool false, .ref s.heap.objs.size, rawInt 0, .none, .none] }) (s.heap.objs.size + 1) s.heap.objs.size 0 .none := by
    have q := Heap.get?_push_size (s.heap.push o) (o := { cls := .type "enumerate", data := .fields #[.none, .bool false, .ref s.heap.objs.size, rawInt 0, .none, .none] }) rfl
    rw [hz] at q
    exact q
  exact ⟨⟨_, he, rfl⟩, h _ he (Heap.get?_push_of_some _ (Heap.get?_push_size _ B.free)) (by rw [Heap.size_push, hz]) fun b o x => Heap.get?_push_of_some _ (Heap.get?_push_of_some _ x)⟩
/-- the turns: the tuple at a stands, each item in a new pair -/
def ItE (K : PySem.W.Frag) (a : Addr) : It where
  go := fun i H => ∃ (xs : List V) (x : V), SqT K H a xs ∧ xs[i]? = some x
  yld := fun i H v H' => ∃ T x, v = .ref T ∧ H T = none ∧ H' = upd H T (.tup [.int (i : Nat), x]) ∧ ∀ xs, SqT K H a xs → xs[i]? = some x
  stop := fun i H => ∃ xs : List V, SqT K H a xs ∧ xs.length = i
theorem turn_enumT {P : Program} {w : World} {K : PySem.W.Frag} {elts : List Expr} {kk : Nat} {tpos : Pos} (a e it : Addr) :
    Turn P w K (.Tuple elts kk tpos) (ItE K a) [e, it] e (fun i h => (∃ old, IsEnum h e it ((i : Nat) : Int) old) ∧ h.IsTupleIter it a i ∧ e ≠ it ∧ a ≠ it ∧ e ≠ a) := by
  refine ⟨by simp, fun i h st b hb => ?_, fun i h h' st k => ?_, ?_, ?_, fun A i s Q E st h => ?_⟩
  · obtain ⟨⟨old, he⟩, ⟨o, ho, hc, hd⟩, _⟩ := st
    rcases (show b = e ∨ b = it by simpa using hb) with rfl | rfl
    · exact ⟨_, he, fun v q => nomatch q⟩
    · exact ⟨o, ho, fun v q => by rw [hd] at q; cases q⟩
  · obtain ⟨⟨old, he⟩, hi, n1, n2, n3⟩ := st
    exact ⟨⟨old, k e (by simp) _ he⟩, hi.at fun o q => k it (by simp) o q, n1, n2, n3⟩
  · rintro X rfl rfl rfl hc i pins s σ H E I hf ⟨⟨old, he⟩, hit, n1, n2, n3⟩ ⟨xs, x, hq, hx⟩
    obtain ⟨its, rv, p, hz⟩ := I.tuple hq
    obtain ⟨u, hu, ru⟩ := rv.get hx
    have hel : e < s.heap.objs.size := Heap.lt_size he
    have hil : it < s.heap.objs.size := by
      obtain ⟨_, q, _⟩ := hit
      exact Heap.lt_size q
    have hlt : i < its.toArray.size := by
      have := (List.getElem?_eq_some_iff.mp hu).1
      simpa using this
    refine wpAny_pyNext_enum_itemD (Draws.tuple (A := X.A.in1) (I.ok.hd hc) it a n2 its.toArray) he ⟨hit, show s.heap.IsTuple a its.toArray from p⟩ hlt n1 (by simp [n1, n3]) fun y h1 tk hy ho hit1 hT hsz hk => ?_
    have ey : y = u := by
      have hy : its.toArray[i]? = some y := hy
      rw [show its.toArray[i]? = its[i]? by simp, hu] at hy
      exact (Option.some.inj hy).symm
    subst ey
    refine ⟨_, rfl, wpAny_letOwnedTupleGo_enum (s := { s with heap := h1, toks := tk + 1 }) ho fun h2 he2 sb => ?_⟩
    have hT2 : h2.get? s.heap.objs.size = some { cls := .type "tuple", data := .seq #[.int i tk, y] } := (sb.2 _ (Nat.ne_of_gt hel)).trans hT
    have new : ObjOk X.prog X.w (upd H s.heap.objs.size (.tup [.int (i : Nat), x])) h2 s.heap.objs.size (.tup [.int (i : Nat), x]) := ⟨maxLen_ok (show 2 ≤ maxLen by decide), [.int i tk, y], .cons ⟨_, rfl⟩ (.cons ru .nil), ⟨_, hT2, rfl, _, rfl⟩⟩
    have I1 : L2.Inv X pins σ (upd H s.heap.objs.size (.tup [.int (i : Nat), x])) { s with heap := h2, toks := tk + 1 } := I.turnedNew (ch := [e, it]) (fun b ob hb q => (sb.2 b fun z => hb (by simp [z])).trans (hk b ob (fun z => hb (by simp [z])) (fun z => hb (by simp [z])) q)) hf (Nat.le_refl _) new
    refine ⟨.ref s.heap.objs.size, _, I1, rfl, ⟨_, x, rfl, I.hok.fresh (Nat.le_refl _), rfl, fun ys hy => by rw [I.tuple_inj hy hq]; exact hx⟩, ⟨⟨y, ?_⟩, hit1.1.at fun o q => (sb.2 it (Ne.symm n1)).trans q, n1, n2, n3⟩, fun b hb => ?_⟩
    · rw [show ((i + 1 : Nat) : Int) = (i : Int) + 1 by omega]
      exact he2
    · have hb' : b < s.heap.objs.size := by
        rcases (show b = e ∨ b = it by simpa using hb) with rfl | rfl
        · exact hel
        · exact hil
      rw [upd_ne (Nat.ne_of_lt hb')]
      exact (hf b hb).1
  · rintro X rfl rfl rfl hc i pins s σ H E I hf ⟨⟨old, he⟩, hit, n1, n2, n3⟩ ⟨xs, hq, hx⟩
    obtain ⟨its, rv, p, hz⟩ := I.tuple hq
    obtain ⟨f0, f1, f2, f3, f4, f5⟩ := hf it (by simp)
    have hl : its.toArray.size = i := by
      rw [List.size_toArray, ← rv.length]
      exact hx
    refine wpAny_pyNext_enum_endD (Draws.tuple (A := X.A.in1) (I.ok.hd hc) it a n2 its.toArray) he ⟨by rw [hl]; exact hit, show s.heap.IsTuple a its.toArray from p⟩ fun h1 eb => ⟨rfl, I.turned (t' := s.toks) (fun b o hb q => eb b o hb q) f0 f1 f3 f4 f5⟩
  · obtain ⟨⟨_, he⟩, _⟩ := st
    exact wpAny_pyIter_enum he h
def iEnT (K : PySem.W.Frag) (ta : TA) : TI := fun σ H R => ta σ H fun vs H1 => ∃ a xs, vs = [.ref a] ∧ SqT K H1 a xs ∧ R (ItE K a) H1
section
variable {X : Cx} {a b c e : Expr} {es : List Expr} {fa fb fc f : FE} {pos : Pos}
theorem pi_enT {ta : TA} {p tpos : Pos} {elts : List Expr} {kk : Nat} (hg : Gl X "enumerate") (hm : X.mg "enumerate" = none) (ha : PA X [e] ta) (hs : starEach [e] X.env = [(false, eval e X.env)] := by rfl) :
    PI X (.Tuple elts kk tpos) (.Call (.Name "enumerate" p) [e] [] pos) (iEnT X.K ta) := by
  refine ⟨fun pins s σ H R I h => ?_⟩
  refine Call_ (ld_blt I hg hm boot_enumerate (PyProof.Rows.callWith_type1 (thn (ha.run pos pins s σ H _ I h) fun us s1 ⟨vs, H1, I1, r1, q1⟩ => ?_) hs rfl))
  obtain ⟨a, xs, rfl, hq, q⟩ := q1
  rw [Vals.ref1 r1]
  obtain ⟨its, rv, p', hz⟩ := I1.tuple hq
  have hlt : a < s1.heap.objs.size := by
    obtain ⟨o, ho, _⟩ := p'
    exact Heap.lt_size ho
  refine call_enum1 (begins_tuple a its.toArray) (show s1.heap.IsTuple a its.toArray from p') fun h1 he hit hsz hk => wpAny_pyIter_enum he ?_
  refine ⟨s1.heap.objs.size + 1, [s1.heap.objs.size + 1, s1.heap.objs.size], _, _, H1, rfl, I1.kept (h' := h1) (t' := s1.toks) hk, turn_enumT a (s1.heap.objs.size + 1) s1.heap.objs.size, ⟨⟨.none, he⟩, ⟨_, hit, rfl, rfl⟩, Nat.succ_ne_self _, Nat.ne_of_lt hlt, Nat.ne_of_gt (Nat.lt_succ_of_lt hlt)⟩, fun b hb => ?_, q⟩
  have hle : s1.heap.objs.size ≤ b := by
    rcases (show b = s1.heap.objs.size + 1 ∨ b = s1.heap.objs.size by simpa using hb) with z | z
    · rw [z]; exact Nat.le_succ _
    · rw [z]; exact Nat.le_refl _
  exact I1.fpOk hle (I1.hok.fresh hle)
/-- the pairs (i, x) -/
def enD (ds : List D) : List D := (List.range ds.length).zipWith (fun (i : Nat) d => D.tuple [.int (i : Int), d]) ds
theorem enD_len (ds : List D) : (enD ds).length = ds.length := by simp [enD]
theorem enD_get {ds : List D} {i : Nat} {d : D} (h : (enD ds)[i]? = some d) : ∃ e, ds[i]? = some e ∧ d = .tuple [.int (i : Int), e] := by
  have hl : i < ds.length := by
    have := (List.getElem?_eq_some_iff.mp h).1
    rwa [enD_len] at this
  refine ⟨ds[i], List.getElem?_eq_getElem hl, ?_⟩
  have e1 : (enD ds)[i]? = some (.tuple [.int (i : Int), ds[i]]) := by
    unfold enD
    rw [List.getElem?_zipWith]
    simp [hl]
  rw [e1] at h
  exact (Option.some.inj h).symm
def fEn (f : FE) : FA := fun env x => match f env x with
  | some (.list ds, x1) => some (enD ds, x1)
  | some (.tuple ds, x1) => some (enD ds, x1)
  | _ => none
theorem si_en {p tpos : Pos} {elts : List Expr} {kk : Nat} (hg : Gl X "enumerate") (hm : X.mg "enumerate" = none) (ha : SE X a fa) (hs : starEach [a] X.env = [(false, eval a X.env)] := by rfl) : SI X (.Tuple elts kk tpos) (.Call (.Name "enumerate" p) [a] [] pos) (fEn fa) := by
  refine ⟨⟨fun pins s σ H R I h2 => ?_⟩⟩
  obtain ⟨g, O, env, x, ds, x', S, e, k⟩ := h2
  unfold fEn at e
  split at e
  · rename_i ds' x1 e1
    cases e
    refine (pi_enum hg hm (pa_cons ha.out pa_nil hs) hs).run pins s σ H R I ⟨g, O, env, x, _, x', S, e1, fun v H1 S1 l1 r1 => ?_⟩
    cases r1 with
    | @lst p xs _ np hp rx =>
      refine ⟨p, xs, rfl, .of hp, k _ [(.ref p, .list ds')] H1 (S1.addg _ fun q hq => ?_) l1 fun O2 σ2 H2 env2 x2 i S2 => ?_⟩
      · rw [List.mem_singleton] at hq
        subst hq
        exact .lst np hp rx
      · have q := S2.gh (.ref p, .list ds') (by simp [FG.add])
        cases q with
        | @lst _ ys _ np2 hp2 ry =>
          refine ⟨fun d hd => ?_, fun hi => ⟨ys, .of hp2, by rw [ry.length, hi, enD_len]; exact Nat.le_refl _⟩⟩
          obtain ⟨d0, hd0, rfl⟩ := enD_get hd
          obtain ⟨y, e2, r2⟩ := ry.get hd0
          refine ⟨⟨ys, y, .of hp2, e2⟩, fun v H' hy => ?_⟩
          obtain ⟨T, x3, rfl, hT, rfl, hy⟩ := hy
          have e3 := hy ys (.of hp2)
          rw [e2] at e3
          cases e3
          have sm := same_upd (o := .tup [.int (i : Nat), y]) hT
          exact ⟨sm, .tup (S2.notO hT) upd_same (.cons (.int _) (.cons (r2.move (.of sm) .refl) .nil))⟩
  · rename_i ds' x1 e1
    cases e
    refine (pi_enT hg hm (pa_cons ha.out pa_nil hs) hs).run pins s σ H R I ⟨g, O, env, x, _, x', S, e1, fun v H1 S1 l1 r1 => ?_⟩
    cases r1 with
    | @tup p xs _ np hp rx =>
      refine ⟨p, xs, rfl, .of hp, k _ [(.ref p, .tuple ds')] H1 (S1.addg _ fun q hq => ?_) l1 fun O2 σ2 H2 env2 x2 i S2 => ?_⟩
      · rw [List.mem_singleton] at hq
        subst hq
        exact .tup np hp rx
      · have q := S2.gh (.ref p, .tuple ds') (by simp [FG.add])
        cases q with
        | @tup _ ys _ np2 hp2 ry =>
          refine ⟨fun d hd => ?_, fun hi => ⟨ys, .of hp2, by rw [ry.length, hi, enD_len]⟩⟩
          obtain ⟨d0, hd0, rfl⟩ := enD_get hd
          obtain ⟨y, e2, r2⟩ := ry.get hd0
          refine ⟨⟨ys, y, .of hp2, e2⟩, fun v H' hy => ?_⟩
          obtain ⟨T, x3, rfl, hT, rfl, hy⟩ := hy
          have e3 := hy ys (.of hp2)
          rw [e2] at e3
          cases e3
          have sm := same_upd (o := .tup [.int (i : Nat), y]) hT
          exact ⟨sm, .tup (S2.notO hT) upd_same (.cons (.int _) (.cons (r2.move (.of sm) .refl) .nil))⟩
  · cases e
end
end RT

namespace RT
open PySem PySem.Spec PyProof.Rows L2 PpSet
/-! ### dict comprehensions -/
def dcL (gt : FGt) (t : FT) (fk fv : FE) (env : FEn) : List D → List (D × D) → FRow → Option (List (D × D) × FRow)
  | [], acc, x => some (acc, x)
  | d :: ds, acc, x => match gt d env with
    | none => none
    | some e1 => match t e1 x with
      | some (true, x1) => match fk e1 x1 with
        | some (k, x2) => match dKey k with
          | some q => match fv e1 x2 with
            | some (v, x3) => if acc.length < maxLen then dcL gt t fk fv env ds (putD dKey acc k q v) x3 else none
            | none => none
          | none => none
        | none => none
      | some (false, x1) => dcL gt t fk fv env ds acc x1
      | none => none
def xDc (f : FA) (gt : FGt) (t : FT) (fk fv : FE) (vs : List Nat) : FX := fun env x => match f env x with
  | some (ds, x1) => match dcL gt t fk fv (wipeE env vs) ds [] x1 with
    | some (r, x2) => some (.ow (.dk r), x2)
    | none => none
  | none => none
theorem dc_read {ω : World} {K : PySem.W.Frag} {f : FA} {gt : FGt} {t : FT} {fk fv : FE} {vs : List Nat} {σ : L2.St} {H : Hp} {Q : VK} (h : tX ω K (xDc f gt t fk fv vs) σ H Q) : tDc (tI ω K f) (tG ω K vs gt) (tT ω K t) (tE ω K fk) (tE ω K fv) vs σ H Q := by
  obtain ⟨g, O, env, x, sl, x', S, e, k⟩ := h
  unfold xDc at e
  split at e
  · rename_i ds x1 e1
    split at e
    · rename_i rs x2 e2
      cases e
      refine ⟨g, O, env, x, ds, x1, S, e1, fun J more H1 S1 l1 wk p hp => ?_⟩
      have n1 := S1.newp hp
      have hp0 : Gone H p := Le.gone l1 (.of hp) S1.unadd
      have hne : ∀ (j : Nat) d b, env[j]? = some d → isOwn d = true → σ[j]? = some (some (.ref b)) → b ≠ p := fun j d b h1 h0 h2 => own_ne2 S1 (.of hp) h1 h0 h2
      refine ⟨fun i m H2 => m = ds.length - i ∧ i ≤ ds.length ∧ Le g H H2 ∧ ∃ x kvs acc, FSt ω K (g.add more) (oAdd O p) σ H2 env x ∧ H2 p = some (.dK kvs) ∧ RpK K (oAdd O p) H2 kvs acc ∧ dcL gt t fk fv (wipeE env vs) (ds.drop i) acc x = some (rs, x'),
        ⟨_, rfl, Nat.zero_le _, l1.trans (.of (same_upd hp)), x1, [], [], S1.own hp True.intro, upd_same, .nil, e2⟩, fun i m H2 hW => ?_⟩
      obtain ⟨rfl, hil, lH, x, kvs, acc, S2, hacc, racc, e⟩ := hW
      obtain ⟨wgo, wst⟩ := wk _ σ H2 env x i S2
      by_cases hlt : i < ds.length
      · have hd : ds[i]? = some ds[i] := List.getElem?_eq_getElem hlt
        obtain ⟨go, yl⟩ := wgo _ hd
        rw [drop_get hd] at e
        refine .inr ⟨go, fun H2 => i + 1 ≤ ds.length ∧ Le g H H2 ∧ ∃ x kvs acc, FSt ω K (g.add more) (oAdd O p) σ H2 env x ∧ H2 p = some (.dK kvs) ∧ RpK K (oAdd O p) H2 kvs acc ∧ dcL gt t fk fv (wipeE env vs) (ds.drop (i + 1)) acc x = some (rs, x'),
          fun H' hN => ⟨ds.length - (i + 1), by omega, rfl, hN.1, hN.2⟩, fun v H3 hy => ?_⟩
        obtain ⟨sm, rv⟩ := yl v H3 hy
        unfold dcL at e
        split at e
        · cases e
        · rename_i env1 e3
          have S3 := S2.same sm
          refine ⟨g.add more, oAdd O p, wipeE env vs, x, ds[i], env1, S3.wiped vs, rv, e3, fun σ1 w1 S4 => ⟨w1.trans (wipe_wipe σ vs), ?_⟩⟩
          split at e
          · rename_i xb e4
            split at e
            · rename_i kd x3 e5
              split at e
              · rename_i q e6
                split at e
                · rename_i vd x4 e7
                  split at e
                  · rename_i hl
                    refine ⟨g.add more, oAdd O p, env1, x, _, xb, S4, e4, fun H5 S5 l5 => ?_⟩
                    refine iteT ?_
                    refine ⟨g.add more, oAdd O p, env1, xb, kd, x3, S5, e5, fun y H6 S6 l6 r6 => ⟨g.add more, oAdd O p, env1, x3, vd, x4, S6, e7, fun z H7 S7 l7 r7 => ?_⟩⟩
                    have l8 : Le (g.add more) H2 H7 := (Le.of sm).trans (l5.trans (l6.trans l7))
                    have S8 := S2.step l8 S7.tb fun r hr => (S7.row r hr).2.2
                    have hacc' := l8 p _ n1.2 hacc rfl
                    refine ⟨kvs, q, dKey_rp e6 r6, hacc', by rw [racc.length]; exact maxLen_lt hl, hlt, ?_, x4, _, _, S8.upd1 hacc' notC_dK (.inr rfl) n1.1 n1.2 True.intro hne, upd_same, ?_, e⟩
                    · intro c u hR e tn
                      have z : c ≠ p := fun z => by rw [z] at e; exact hp0.no e tn
                      rw [upd_ne z]
                      exact l8 c u hR (lH c u hR e tn) tn
                    · have ek := dKey_ok e6
                      subst ek
                      exact (RpK.put (racc.move (S2.keep l8) .refl) r7).move (keep_own S8 (.inr rfl)) .refl
                  · cases e
                · cases e
              · cases e
            · cases e
          · rename_i xb e4
            refine ⟨g.add more, oAdd O p, env1, x, _, xb, S4, e4, fun H5 S5 l5 => ?_⟩
            refine iteF ?_
            have l7 : Le (g.add more) H2 H5 := (Le.of sm).trans l5
            have S7 := S2.step l7 S5.tb fun r hr => (S5.row r hr).2.2
            exact ⟨hlt, fun c u hR e tn => l7 c u hR (lH c u hR e tn) tn, xb, kvs, acc, S7, l7 p _ n1.2 hacc rfl, racc.move (S2.keep l7) .refl, e⟩
          · cases e
      · have hi : i = ds.length := by omega
        rw [hi, List.drop_length] at e
        unfold dcL at e
        cases e
        refine .inl ⟨wst hi, k (oAdd O p) _ H2 S2.unadd lH (fun a z => z.elim .inl fun e => .inr (e ▸ hp0)) (fun a z => .inl z) (.ow (.inr rfl) n1.1 n1.2 ⟨kvs, hacc, racc⟩) fun d z => ⟨p, rfl, hp0⟩⟩
    · cases e
  · cases e
section
variable {X : Cx} {a b c e : Expr} {es : List Expr} {fa fb fc f : FE} {pos : Pos}
theorem sx_dc {kx vx tg iter : Expr} {ifs : List Expr} {scope : Scope} {own : List (Str × Nat)} {f : FA} {gt : FGt} {t : FT} {fk fv : FE} (hc : X.calm = true) (hN : X.N.Nodup) (hi : SI X tg iter f) (ok : BlkOk X.N X.env.scope scope own)
    (hg : ∀ (s : Shared) (H : Hp) (C : Addr) (cl : List (Str × Addr)) (fp : List Addr), SG (X.blk s H scope (compEnvC scope cl C X.env) fp) tg (own.map (·.2)) gt)
    (ht : ∀ (s : Shared) (H : Hp) (C : Addr) (cl : List (Str × Addr)) (fp : List Addr), STs (X.blk s H scope (compEnvC scope cl C X.env) fp) ifs t)
    (hk : ∀ (s : Shared) (H : Hp) (C : Addr) (cl : List (Str × Addr)) (fp : List Addr), SE (X.blk s H scope (compEnvC scope cl C X.env) fp) kx fk)
    (he : ∀ (s : Shared) (H : Hp) (C : Addr) (cl : List (Str × Addr)) (fp : List Addr), SE (X.blk s H scope (compEnvC scope cl C X.env) fp) vx fv) (hs : ∀ x, foldedSetIterable iter X.env x = pure x := by intro _; rfl) :
    SX X (.DictComp kx vx [⟨tg, iter, ifs, 0⟩] scope pos) (xDc f gt t fk fv (own.map (·.2))) :=
  ⟨PEw (pe_dc hc hN hi.out ok (fun s H C cl fp => (show PG _ tg (tG X.w X.K (own.map (·.2)) gt) from (hg s H C cl fp).out)) (fun s H C cl fp => (show PTs _ ifs (tT X.w X.K t) from (ht s H C cl fp).out)) (fun s H C cl fp => (show PE _ kx (tE X.w X.K fk) from (hk s H C cl fp).out)) (fun s H C cl fp => (show PE _ vx (tE X.w X.K fv) from (he s H C cl fp).out)) hs) fun σ H Q h => dc_read h⟩
end
/-! ### sets of ints -/
def SetIO (w : World) (a : Addr) (M : Int → Bool) (n : Nat) : HO := .ext fun h => SetR w h a M n
theorem setR_move {w : World} {h h' : Heap} {a : Addr} {M : Int → Bool} {n : Nat} (R : SetR w h a M n) (k : ∀ o, h.get? a = some o → h'.get? a = some o) : SetR w h' a M n := by
  obtain ⟨o, es, ep, t, ho, r⟩ := R
  exact ⟨o, es, ep, t, k o ho, r⟩
theorem notC_set {w : World} {a : Addr} {M : Int → Bool} {n : Nat} : ¬ IsC (SetIO w a M n) := not_code fun h R => by
  obtain ⟨o, es, ep, t, ho, _, hd, _⟩ := R
  exact ⟨a, o, ho, fun vs z => by rw [z] at hd; cases hd⟩
theorem setIO_ok {w : World} {P : Program} {H : Hp} {h : Heap} {a : Addr} {M : Int → Bool} {n : Nat} (R : SetR w h a M n) : ObjOk P w H h a (SetIO w a M n) := by
  refine ⟨R, ?_, fun h1 h2 p k => setR_move p k⟩
  obtain ⟨o, _, _, _, ho, _⟩ := R
  exact ⟨o, ho⟩
section
variable {X : Cx} {elt tg iter : Expr} {ifs : List Expr} {scope : Scope} {own : List (Str × Nat)} {pos : Pos} {wi : TI} {g : TG} {tt : TT} {te : TE}
theorem addI_ok {pins : List (Addr × Obj)} {σ : L2.St} {H : Hp} {s : Shared} {E : Value → Shared → Prop} {p : Addr} {M : Int → Bool} {n : Nat} {k : Int} {tk : Tok} {Q : Value → Shared → Prop} (I : L2.Inv X pins σ H s) (hp : H p = some (SetIO X.w p M n)) (room : n + 1 < scanBound)
    (h : ∀ s', L2.Inv X pins σ (upd H p (SetIO X.w p (fun j => M j || decide (j = k)) (if M k = true then n else n + 1))) s' → Q .none s') : wpAny (model X.prog X.w) X.A (call (.builtin "set.add") [.ref p, .int k tk]) Q E s := by
  have R : SetR X.w s.heap p M n := (I.hok p _ hp).1
  refine setR_add R room fun h1 sb new => h _ (I.write (e := p) (t' := s.toks + 1) (by rw [hp]; exact True.intro) (.inl rfl) (fun b u hb hu => (sb.2 b hb).trans hu) ?_ (setIO_ok new))
  obtain ⟨o, _, _, _, ho, _⟩ := new
  exact ⟨o, ho⟩
/-- {elt for .. in .. if ..}, elt an int -/
def tSi (w : World) (wi : TI) (g : TG) (tt : TT) (te : TE) (vs : List Nat) : TE := fun σ H Q => wi σ H fun J H1 => ∀ p, H1 p = none →
  ∃ W : Nat → Nat → Hp → Prop, (∃ m, W 0 m (upd H1 p (SetIO w p (fun _ => false) 0))) ∧ ∀ i m H, W i m H → (J.stop i H ∧ Q (.ref p) H) ∨
    (J.go i H ∧ ∃ Nx : Hp → Prop, (∀ H', Nx H' → ∃ m', m' < m ∧ W (i + 1) m' H') ∧ ∀ x H', J.yld i H x H' → g x (wipe σ vs) H' fun σ2 H2 => wipe σ2 vs = wipe σ vs ∧ tt σ2 H2 fun b H3 =>
      if b = true then te σ2 H3 fun y H4 => ∃ (k : Int) (M : Int → Bool) (n : Nat), y = .int k ∧ H4 p = some (SetIO w p M n) ∧ n + 1 < scanBound ∧ Nx (upd H4 p (SetIO w p (fun j => M j || decide (j = k)) (if M k = true then n else n + 1))) else Nx H3)
theorem pe_si (hc : X.calm = true) (hN : X.N.Nodup) (hi : PI X tg iter wi) (ok : BlkOk X.N X.env.scope scope own)
    (hg : ∀ (s : Shared) (H : Hp) (C : Addr) (cl : List (Str × Addr)) (fp : List Addr), PG (X.blk s H scope (compEnvC scope cl C X.env) fp) tg g)
    (ht : ∀ (s : Shared) (H : Hp) (C : Addr) (cl : List (Str × Addr)) (fp : List Addr), PTs (X.blk s H scope (compEnvC scope cl C X.env) fp) ifs tt)
    (he : ∀ (s : Shared) (H : Hp) (C : Addr) (cl : List (Str × Addr)) (fp : List Addr), PE (X.blk s H scope (compEnvC scope cl C X.env) fp) elt te)
    (hs : ∀ x, foldedSetIterable iter X.env x = pure x := by intro _; rfl) : PE X (.SetComp elt [⟨tg, iter, ifs, 0⟩] scope pos) (tSi X.w wi g tt te (own.map (·.2))) := by
  refine ⟨fun pins s σ H Q I h => ?_⟩
  rw [eval_SetComp]
  have clo : ∀ y ∈ scope.names, y.2 = .free → ∃ c, X.env.cells.lookup y.1 = some c := fun y hy e => (ok.free y hy e).elim (fun k => I.ok.has _ (.inl k)) fun k => I.ok.has _ (.inr k)
  refine wpAny_comprehension_free (use := none) rfl hs (closure_ok clo) ok.kind (fun y hy e => by rw [ok.uniq y hy, e]) (thn (hi.run pins s σ H _ I h) fun xv s1 hx => thn hx fun itv s2 h2 => ?_)
  obtain ⟨it, fp, tn, J, H2, rfl, I2, T, st2, f2, q⟩ := h2
  refine newSet_ok (newEnv_comp ?_)
  -- the empty set, laid and tracked
  let eo : Obj := { cls := .type "set", dict := none, data := .set #[] 0 (.fresh 0 0 (!X.w.params.followText "set-order")) }
  let p : Addr := s2.heap.objs.size
  have hpn : H2 p = none := I2.hok.fresh (Nat.le_refl _)
  obtain ⟨W, ⟨m0, w0⟩, turn⟩ := q p hpn
  let s3 : Shared := { s2 with heap := s2.heap.push eo }
  let H3 : Hp := upd H2 p (SetIO X.w p (fun _ => false) 0)
  have I3 : L2.Inv X pins σ H3 s3 := I2.laid (t' := s2.toks) (fun b o e => Heap.get?_push_of_some _ e) (Nat.le_refl _) (setIO_ok (setR_fresh X.w))
  have low : ∀ b ∈ fp, b < s2.heap.objs.size := fun b hb => let ⟨_, e, _⟩ := T.obj _ _ st2 b hb; Heap.lt_size e
  have f3 : ∀ b ∈ fp, FpOk X pins H3 b ∧ b < s3.heap.objs.size := fun b hb => by
    have hlt := low b hb
    refine ⟨⟨?_, (f2 b hb).2⟩, by show b < (s2.heap.push eo).objs.size; rw [Heap.size_push]; exact Nat.lt_succ_of_lt hlt⟩
    show upd H2 p _ b = none
    rw [upd_ne (show b ≠ p from Nat.ne_of_lt hlt)]
    exact (f2 b hb).1
  have st3 : tn 0 s3.heap := T.keep _ _ _ st2 fun b _ o e => Heap.get?_push_of_some _ e
  have I4 := block_start I3 ok hN f3
  have pg := hg s3 H3 s3.heap.objs.size (cellsFrom (s3.heap.objs.size + 1) scope.names (cloFrom X.env.cells scope.names [])) fp
  have pt := ht s3 H3 s3.heap.objs.size (cellsFrom (s3.heap.objs.size + 1) scope.names (cloFrom X.env.cells scope.names [])) fp
  have pe := he s3 H3 s3.heap.objs.size (cellsFrom (s3.heap.objs.size + 1) scope.names (cloFrom X.env.cells scope.names [])) fp
  have nfp : ∀ b ∈ fp, H3 b = none := fun b hb => (f3 b hb).1.1
  have w0 : W 0 m0 H3 := w0
  clear_value H3
  show codeAny (model X.prog X.w) X.A (.compStart (.SetComp elt [⟨tg, iter, ifs, 0⟩] scope pos) 0 (.ref it) (.ref p) (compEnvC scope (cellsFrom (s3.heap.objs.size + 1) scope.names (cloFrom X.env.cells scope.names [])) s3.heap.objs.size X.env)) (compPost (model X.prog X.w) X.A X.xe none (EP X pins σ Q) (.ref p) s3.heap.objs.size) { s3 with heap := pushCells (s3.heap.push { cls := .type "dict", data := .dict #[] }) scope.names }
  generalize hce : compEnvC scope (cellsFrom (s3.heap.objs.size + 1) scope.names (cloFrom X.env.cells scope.names [])) s3.heap.objs.size X.env = ce at I4 pg pt pe ⊢
  have cL : ce.locals = s3.heap.objs.size := by rw [← hce] <;> rfl
  generalize hs4 : ({ s3 with heap := pushCells (s3.heap.push { cls := .type "dict", data := .dict #[] }) scope.names } : Shared) = s4 at I4 ⊢
  have st4 : tn 0 s4.heap := T.keep _ _ _ st3 fun b _ o e => by rw [← hs4]; exact pushCells_keeps _ _ _ _ (Heap.get?_push_of_some _ e)
  have stat : ∀ {σ' : L2.St} {H' : Hp} {s' : Shared}, L2.Inv (X.blk s3 H3 scope ce fp) [] σ' H' s' → (∀ b ∈ fp, H' b = none) → ∀ b ∈ fp, FpOk (X.blk s3 H3 scope ce fp) [] H' b := fun {σ' H' s'} I' hn b hb =>
    ⟨hn b hb, (I'.ok.exf b hb).1, I'.ok.exfs b hb, .inl hb, fun x c e => (I'.ok.exf b hb).2 x c e, fun r hr => absurd (show r ∈ ([] : List (Addr × Obj)) ++ [] from hr) (by simp)⟩
  refine codeAny_compStart_set ?loop (T.self X.A 0 _ _ _ st4 ?loop)
  refine compLoopS_any (fun n s' => ∃ i H', L2.Inv (X.blk s3 H3 scope ce fp) [] (wipe σ (own.map (·.2))) H' s' ∧ tn i s'.heap ∧ (∀ b ∈ fp, H' b = none) ∧ W i n H') ?_ m0 ⟨0, H3, I4, st4, nfp, w0⟩
  rintro n s5 ⟨i, H5, I5, st5, n5, w5⟩
  rcases turn i n H5 w5 with ⟨stop, qq⟩ | ⟨go, Nx, hNx, step⟩
  · refine thnF (T.done (X.blk s3 H3 scope ce fp) rfl rfl rfl hc i [] s5 _ H5 (fun _ _ => False) I5 (stat I5 n5) st5 stop) fun r s6 ⟨hr, I6⟩ => ?_
    subst hr
    have I7 : L2.Inv X pins σ H5 s6 := I3.call' (ch := fp) I6.os I6.base I6.hok I6.bare fun b hb =>
      let ⟨_, a1, _, a3, a4, a5⟩ := (f3 b hb).1
      ⟨a3, a1, a4, a5⟩
    have nC : H5 s3.heap.objs.size = none := cL ▸ I6.free
    obtain ⟨m, hn, _⟩ := I6.loc
    have hn : s6.heap.Ns s3.heap.objs.size m := cL ▸ hn
    obtain ⟨a0, a1, a2, a3, a4, a5⟩ := I3.fpOk (H' := H5) (Nat.le_refl _) nC
    exact ⟨m, hn, fun h9 sb => ⟨.ref p, H5, I7.turned (t' := s6.toks) (fun b o hb e => (sb.2 b hb).trans e) a0 a1 a3 a4 a5, rfl, qq⟩⟩
  · refine thnF (T.item (X.blk s3 H3 scope ce fp) rfl rfl rfl hc i [] s5 _ H5 (fun _ _ => False) I5 (stat I5 n5) st5 go) fun r s6 ⟨u, hr, h6⟩ => ?_
    subst hr
    refine thnF h6 fun _ s7 ⟨x, H7, I7, r7, y7, st7, n7⟩ => ?_
    refine thnF (pg.run _ s7 _ H7 x u _ (I7.pinned (stat I7 n7) (T.obj _ _ st7)) r7 (step x H7 y7)) fun _ s8 ⟨σ8, H8, I8, hw8, q8⟩ => ?_
    refine thnF (pt.run _ s8 σ8 H8 _ I8 q8) fun b s9 ⟨H9, I9, q9⟩ => ?_
    have fin : ∀ {s' : Shared} {H' : Hp}, L2.Inv (X.blk s3 H3 scope ce fp) ([] ++ pinsAt fp s7.heap) σ8 H' s' → Nx H' → ∃ m, m < n ∧ ∃ i H', L2.Inv (X.blk s3 H3 scope ce fp) [] (wipe σ (own.map (·.2))) H' s' ∧ tn i s'.heap ∧ (∀ b ∈ fp, H' b = none) ∧ W i m H' := fun {s' H'} I' nx => by
      obtain ⟨m', hm, w'⟩ := hNx H' nx
      have stays : ∀ b ∈ fp, ∀ o, s7.heap.get? b = some o → s'.heap.get? b = some o ∧ H' b = none := fun b hb o e => by
        obtain ⟨z1, z2, _⟩ := I'.pin (b, o) (List.mem_append_right _ (List.mem_append_right _ (mem_pinsAt hb e)))
        exact ⟨z1, z2⟩
      refine ⟨m', hm, i + 1, H', (I'.unpinned (pins := [])).weak (by rw [← hw8, wipe_length]) fun j v e => ?_, T.keep _ _ _ st7 fun b hb o e => (stays b hb o e).1, fun b hb => ?_, w'⟩
      · rw [← hw8] at e
        exact (wipe_some e).1
      · obtain ⟨o, e, _⟩ := T.obj _ _ st7 b hb
        exact (stays b hb o e).2
    cases b with
    | false =>
      rw [if_neg Bool.false_ne_true] at q9 ⊢
      exact fin I9 q9
    | true =>
      rw [if_pos rfl] at q9 ⊢
      refine thnF (pe.run _ s9 σ8 H9 _ I9 q9) fun z s10 ⟨yv, H10, I10, r10, k, M, n0, ey, h11, hz, nx⟩ => ?_
      subst ey
      obtain ⟨tk, rfl⟩ := (show ∃ t, z = Value.int k t from r10)
      exact addI_ok (X := X.blk s3 H3 scope ce fp) I10 h11 hz fun s11 I11 => fin I11 nx
end
/-- without doubles, in the order of their coming -/
def nubI (ns : List Int) : List Int := ns.foldl (fun acc k => if k ∈ acc then acc else acc ++ [k]) []
theorem nubI_snoc (ns : List Int) (k : Int) : nubI (ns ++ [k]) = if k ∈ nubI ns then nubI ns else nubI ns ++ [k] := by
  unfold nubI
  rw [List.foldl_append]
  rfl
theorem nub_fold : ∀ (ns acc : List Int), acc.Nodup → (ns.foldl (fun acc k => if k ∈ acc then acc else acc ++ [k]) acc).Nodup ∧ ∀ k, k ∈ ns.foldl (fun acc k => if k ∈ acc then acc else acc ++ [k]) acc ↔ k ∈ acc ∨ k ∈ ns
  | [], acc, h => ⟨h, fun k => by simp⟩
  | n :: ns, acc, h => by
    rw [List.foldl_cons]
    by_cases q : n ∈ acc
    · rw [if_pos q]
      obtain ⟨h1, h2⟩ := nub_fold ns acc h
      refine ⟨h1, fun k => ?_⟩
      rw [h2 k, List.mem_cons]
      constructor
      · rintro (z | z)
        · exact .inl z
        · exact .inr (.inr z)
      · rintro (z | z | z)
        · exact .inl z
        · exact .inl (z ▸ q)
        · exact .inr z
    · rw [if_neg q]
      have hn : (acc ++ [n]).Nodup := by
        rw [List.nodup_append]
        refine ⟨h, by simp, fun a ha b hb => ?_⟩
        rw [List.mem_singleton] at hb
        subst hb
        exact fun z => q (z ▸ ha)
      obtain ⟨h1, h2⟩ := nub_fold ns (acc ++ [n]) hn
      refine ⟨h1, fun k => ?_⟩
      rw [h2 k, List.mem_cons, List.mem_append, List.mem_singleton]
      constructor
      · rintro ((z | z) | z)
        · exact .inl z
        · exact .inr (.inl z)
        · exact .inr (.inr z)
      · rintro (z | z | z)
        · exact .inl (.inl z)
        · exact .inl (.inr z)
        · exact .inr z
theorem nubI_nd (ns : List Int) : (nubI ns).Nodup := (nub_fold ns [] .nil).1
theorem nubI_mem (ns : List Int) (k : Int) : k ∈ nubI ns ↔ k ∈ ns := by
  have h := (nub_fold ns [] .nil).2 k
  unfold nubI
  rw [h]
  simp
theorem nub_len : ∀ (ns acc : List Int), (ns.foldl (fun acc k => if k ∈ acc then acc else acc ++ [k]) acc).length ≤ acc.length + ns.length
  | [], acc => Nat.le_refl _
  | n :: ns, acc => by
    rw [List.foldl_cons, List.length_cons]
    have h := nub_len ns (if n ∈ acc then acc else acc ++ [n])
    split at h <;> rename_i q
    · rw [if_pos q]; omega
    · rw [if_neg q]
      rw [List.length_append, List.length_singleton] at h
      omega
theorem le_nd_lt : ∀ {l : List Int}, l.Pairwise (· ≤ ·) → l.Nodup → l.Pairwise (· < ·)
  | [], _, _ => .nil
  | x :: l, h, nd => by
    have h' := List.pairwise_cons.mp h
    have n' := List.nodup_cons.mp nd
    exact List.pairwise_cons.mpr ⟨fun y hy => by
      have a := h'.1 y hy
      have b : x ≠ y := fun z => n'.1 (z ▸ hy)
      omega, le_nd_lt h'.2 n'.2⟩
/-- the set's list -/
def setI (ns : List Int) : List Int := sortI (nubI ns)
theorem setI_lt (ns : List Int) : (setI ns).Pairwise (· < ·) := le_nd_lt (sortI_sorted _) ((sortI_perm _).nodup_iff.mpr (nubI_nd ns))
theorem setI_mem (ns : List Int) (k : Int) : k ∈ setI ns ↔ k ∈ ns := by
  unfold setI
  rw [(sortI_perm _).mem_iff, nubI_mem]
theorem lt_uniq : ∀ {l m : List Int}, l.Pairwise (· < ·) → m.Pairwise (· < ·) → (∀ k, k ∈ l ↔ k ∈ m) → l = m
  | [], [], _, _, _ => rfl
  | [], y :: m, _, _, h => absurd ((h y).mpr List.mem_cons_self) (by simp)
  | x :: l, [], _, _, h => absurd ((h x).mp List.mem_cons_self) (by simp)
  | x :: l, y :: m, hl, hm, h => by
    have hl' := List.pairwise_cons.mp hl
    have hm' := List.pairwise_cons.mp hm
    have e : x = y := by
      have h1 := (h x).mp List.mem_cons_self
      have h2 := (h y).mpr List.mem_cons_self
      rcases List.mem_cons.mp h1 with e | e
      · exact e
      · rcases List.mem_cons.mp h2 with e2 | e2
        · exact e2.symm
        · have a := hm'.1 x e
          have b := hl'.1 y e2
          omega
    subst e
    rw [lt_uniq hl'.2 hm'.2 fun k => ?_]
    have hk := h k
    rw [List.mem_cons, List.mem_cons] at hk
    constructor
    · intro z
      rcases hk.mp (.inr z) with e | e
      · subst e
        have := hl'.1 k z
        omega
      · exact e
    · intro z
      rcases hk.mpr (.inr z) with e | e
      · subst e
        have := hm'.1 k z
        omega
      · exact e
abbrev FN := FEn → FRow → Option (List Int × FRow)
def tSet (K : PySem.W.Frag) (w : World) (fn : FN) : TE := fun σ H Q => ∃ g O env x ns x', FSt w K g O σ H env x ∧ fn env x = some (ns, x') ∧
  ∀ p H' M, FSt w K g (oAdd O p) σ H' env x' → Le g H H' → Gone H p → H' p = some (SetIO w p M (nubI ns).length) → (∀ k, M k = true ↔ k ∈ ns) → ns.length < 64 → Q (.ref p) H'
def nSet (f : FA) (gt : FGt) (t : FT) (fe : FE) (vs : List Nat) : FN := fun env x => match f env x with
  | some (ds, x1) => match compL gt t fe (wipeE env vs) ds x1 with
    | some (rs, x2) => match intsD rs with
      | some ns => if ns.length < 64 then some (ns, x2) else none
      | none => none
    | none => none
  | none => none
theorem set_read {K : PySem.W.Frag} {w : World} {f : FA} {gt : FGt} {t : FT} {fe : FE} {vs : List Nat} {σ : L2.St} {H : Hp} {Q : VK} (h : tSet K w (nSet f gt t fe vs) σ H Q) : tSi w (tI w K f) (tG w K vs gt) (tT w K t) (tE w K fe) vs σ H Q := by
  obtain ⟨g, O, env, x, ns, x', S, e, k⟩ := h
  unfold nSet at e
  split at e
  · rename_i ds x1 e1
    split at e
    · rename_i rs x2 e2
      split at e
      · rename_i ns' e0
        split at e
        · rename_i hl
          cases e
          refine ⟨g, O, env, x, ds, x1, S, e1, fun J more H1 S1 l1 wk p hp => ?_⟩
          have n1 := S1.newp hp
          have hp0 : Gone H p := Le.gone l1 (.of hp) S1.unadd
          have hne : ∀ (j : Nat) d b, env[j]? = some d → isOwn d = true → σ[j]? = some (some (.ref b)) → b ≠ p := fun j d b h1 h0 h2 => own_ne2 S1 (.of hp) h1 h0 h2
          refine ⟨fun i m H2 => m = ds.length - i ∧ i ≤ ds.length ∧ Le g H H2 ∧ ∃ x M dn rest rd, FSt w K (g.add more) (oAdd O p) σ H2 env x ∧ H2 p = some (SetIO w p M (nubI dn).length) ∧ (∀ k, M k = true ↔ k ∈ dn) ∧ compL gt t fe (wipeE env vs) (ds.drop i) x = some (rd, x') ∧ intsD rd = some rest ∧ dn ++ rest = ns,
            ⟨_, rfl, Nat.zero_le _, l1.trans (.of (same_upd hp)), x1, _, [], ns, rs, S1.own hp notC_set, upd_same, (fun k => by simp), e2, e0, rfl⟩, fun i m H2 hW => ?_⟩
          obtain ⟨rfl, hil, lH, x, M, dn, rest, rd, S2, hacc, hM, e, ei, er⟩ := hW
          obtain ⟨wgo, wst⟩ := wk _ σ H2 env x i S2
          by_cases hlt : i < ds.length
          · have hd : ds[i]? = some ds[i] := List.getElem?_eq_getElem hlt
            obtain ⟨go, yl⟩ := wgo _ hd
            rw [drop_get hd] at e
            refine .inr ⟨go, fun H2 => i + 1 ≤ ds.length ∧ Le g H H2 ∧ ∃ x M dn rest rd, FSt w K (g.add more) (oAdd O p) σ H2 env x ∧ H2 p = some (SetIO w p M (nubI dn).length) ∧ (∀ k, M k = true ↔ k ∈ dn) ∧ compL gt t fe (wipeE env vs) (ds.drop (i + 1)) x = some (rd, x') ∧ intsD rd = some rest ∧ dn ++ rest = ns,
              fun H' hN => ⟨ds.length - (i + 1), by omega, rfl, hN.1, hN.2⟩, fun v H3 hy => ?_⟩
            obtain ⟨sm, rv⟩ := yl v H3 hy
            unfold compL at e
            split at e
            · cases e
            · rename_i env1 e3
              have S3 := S2.same sm
              refine ⟨g.add more, oAdd O p, wipeE env vs, x, ds[i], env1, S3.wiped vs, rv, e3, fun σ1 w1 S4 => ⟨w1.trans (wipe_wipe σ vs), ?_⟩⟩
              split at e
              · rename_i xb e4
                split at e
                · rename_i r x3 e5
                  split at e
                  · rename_i rs' x4 e6
                    cases e
                    unfold intsD at ei
                    split at ei
                    · rename_i z; cases z
                    · rename_i kk rr z
                      cases z
                      split at ei
                      · rename_i rest' ei'
                        cases ei
                        refine ⟨g.add more, oAdd O p, env1, x, _, xb, S4, e4, fun H5 S5 l5 => ?_⟩
                        refine iteT ?_
                        refine ⟨g.add more, oAdd O p, env1, xb, _, x3, S5, e5, fun y H6 S6 l6 r6 => ?_⟩
                        cases r6
                        have l7 : Le (g.add more) H2 H6 := (Le.of sm).trans (l5.trans l6)
                        have S7 := S2.step l7 S6.tb fun r hr => (S6.row r hr).2.2
                        have hacc' := l7 p _ n1.2 hacc rfl
                        have hlen : (nubI dn).length ≤ dn.length := by
                          have z := nub_len dn []
                          rw [List.length_nil, Nat.zero_add] at z
                          exact z
                        have ll : dn.length < 64 := by
                          have h2 : (dn ++ kk :: rest').length = ns.length := by rw [er]
                          rw [List.length_append, List.length_cons] at h2
                          omega
                        have hnub : (if M kk = true then (nubI dn).length else (nubI dn).length + 1) = (nubI (dn ++ [kk])).length := by
                          rw [nubI_snoc]
                          by_cases q : kk ∈ dn
                          · rw [if_pos ((hM kk).mpr q), if_pos ((nubI_mem dn kk).mpr q)]
                          · rw [if_neg (fun z => q ((hM kk).mp z)), if_neg (fun z => q ((nubI_mem dn kk).mp z)), List.length_append, List.length_singleton]
                        refine ⟨kk, M, _, rfl, hacc', Nat.lt_of_le_of_lt (show (nubI dn).length + 1 ≤ 64 by omega) (by decide), hlt, ?_, x3, _, dn ++ [kk], rest', rs', S7.upd1 hacc' notC_set (.inr rfl) n1.1 n1.2 notC_set hne, by rw [upd_same, hnub], fun k => ?_, e6, ei', by rw [List.append_assoc]; exact er⟩
                        · intro c u hR e tn
                          have z : c ≠ p := fun z => by rw [z] at e; exact hp0.no e tn
                          rw [upd_ne z]
                          exact l7 c u hR (lH c u hR e tn) tn
                        · rw [Bool.or_eq_true, hM k, List.mem_append, List.mem_singleton, decide_eq_true_iff]
                      · cases ei
                    · cases ei
                  · cases e
                · cases e
              · rename_i xb e4
                refine ⟨g.add more, oAdd O p, env1, x, _, xb, S4, e4, fun H5 S5 l5 => ?_⟩
                refine iteF ?_
                have l7 : Le (g.add more) H2 H5 := (Le.of sm).trans l5
                have S7 := S2.step l7 S5.tb fun r hr => (S5.row r hr).2.2
                exact ⟨hlt, fun c u hR e tn => l7 c u hR (lH c u hR e tn) tn, xb, M, dn, rest, rd, S7, l7 p _ n1.2 hacc rfl, hM, e, ei, er⟩
              · cases e
          · have hi : i = ds.length := by omega
            rw [hi, List.drop_length] at e
            unfold compL at e
            cases e
            cases ei
            rw [List.append_nil] at er
            subst er
            exact .inl ⟨wst hi, k p H2 M S2.unadd lH hp0 hacc hM hl⟩
        · cases e
      · cases e
    · cases e
  · cases e
structure SN (X : Cx) (e : Expr) (f : FN) : Prop where
  out : PE X e (tSet X.K X.w f)
section
variable {X : Cx} {a b c e : Expr} {es : List Expr} {fa fb fc f : FE} {pos : Pos}
theorem sn_comp {elt tg iter : Expr} {ifs : List Expr} {scope : Scope} {own : List (Str × Nat)} {f : FA} {gt : FGt} {t : FT} {fe : FE} (hc : X.calm = true) (hN : X.N.Nodup) (hi : SI X tg iter f) (ok : BlkOk X.N X.env.scope scope own)
    (hg : ∀ (s : Shared) (H : Hp) (C : Addr) (cl : List (Str × Addr)) (fp : List Addr), SG (X.blk s H scope (compEnvC scope cl C X.env) fp) tg (own.map (·.2)) gt)
    (ht : ∀ (s : Shared) (H : Hp) (C : Addr) (cl : List (Str × Addr)) (fp : List Addr), STs (X.blk s H scope (compEnvC scope cl C X.env) fp) ifs t)
    (he : ∀ (s : Shared) (H : Hp) (C : Addr) (cl : List (Str × Addr)) (fp : List Addr), SE (X.blk s H scope (compEnvC scope cl C X.env) fp) elt fe) (hs : ∀ x, foldedSetIterable iter X.env x = pure x := by intro _; rfl) :
    SN X (.SetComp elt [⟨tg, iter, ifs, 0⟩] scope pos) (nSet f gt t fe (own.map (·.2))) :=
  ⟨PEw (pe_si hc hN hi.out ok (fun s H C cl fp => (show PG _ tg (tG X.w X.K (own.map (·.2)) gt) from (hg s H C cl fp).out)) (fun s H C cl fp => (show PTs _ ifs (tT X.w X.K t) from (ht s H C cl fp).out)) (fun s H C cl fp => (show PE _ elt (tE X.w X.K fe) from (he s H C cl fp).out)) hs) fun σ H Q h => set_read h⟩
def rSrtS (w : World) : List V → Hp → VK → Prop := fun vs H Q => ∃ (p : Addr) (M : Int → Bool) (n : Nat), vs = [.ref p] ∧ H p = some (SetIO w p M n) ∧ n < 64 ∧ ∀ (ns : List Int) (q : Addr), ns.Pairwise (· < ·) → (∀ k, k ∈ ns ↔ M k = true) → H q = none → Q (.ref q) (upd H q (.lst (ns.map V.int)))
theorem cr_srtS (hc : X.calm = true) : CallR X (.builtin "sorted") (rSrtS X.w) := by
  intro pins s σ H vs us Q I r h
  obtain ⟨p, M, n, rfl, hp, h64, q⟩ := h
  rw [Vals.ref1 r]
  have R : SetR X.w s.heap p M n := (I.hok p _ hp).1
  refine sorted_set R (I.ok.hd hc) h64 fun s' l out c ns keep hg ho hl hget hI hlt hmem hn => ?_
  have hlen : (ns.map V.int).length ≤ sizeLine := by
    rw [List.length_map, hn]
    exact maxLen_ok (Nat.le_trans (Nat.le_of_lt h64) (by decide))
  have new : ObjOk X.prog X.w (upd H l (.lst (ns.map V.int))) s'.heap l (.lst (ns.map V.int)) := ⟨hlen, out.toList, c, vals_of_ints hI, by rw [hget]⟩
  have I1 : L2.Inv X pins σ (upd H l (.lst (ns.map V.int))) s' := by
    exact I.call' (ch := []) ho (Un.laid keep hl (I.hok.fresh hl)) (I.hok.laid keep hl new) (by rw [hg]; exact I.bare) fun b hb => nomatch hb
  exact ⟨.ref l, _, I1, rfl, q ns l hlt hmem (I.hok.fresh hl)⟩
/-- sorted({..}) -/
def fSrtS (f : FN) : FE := fun env x => match f env x with
  | some (ns, x1) => some (.list ((setI ns).map .int), x1)
  | none => none
theorem se_srtS {n : FN} {p : Pos} (hc : X.calm = true) (hg : Gl X "sorted") (hm : X.mg "sorted" = none) (ha : SN X a n) (hs : starEach [a] X.env = (false, eval a X.env) :: starEach [] X.env := by rfl) : SE X (.Call (.Name "sorted" p) [a] [] pos) (fSrtS n) := by
  refine ⟨PEw (pe_callB (cr_srtS hc) hg hm (by decide +kernel) (pa_cons ha.out pa_nil hs) (by decide) (by decide) hs) fun σ H Q h => ?_⟩
  obtain ⟨g, O, env, x, d, x', S, e, k⟩ := h
  unfold fSrtS at e
  split at e
  · rename_i ns x1 e1
    cases e
    refine ⟨g, O, env, x, ns, x', S, e1, fun p H1 M S1 l1 hp0 hp hM h64 => ⟨p, M, _, rfl, hp, ?_, fun ns' q h1 h2 hq => ?_⟩⟩
    · have z := nub_len ns []
      rw [List.length_nil, Nat.zero_add] at z
      exact Nat.lt_of_le_of_lt z h64
    · have e2 : ns' = setI ns := lt_uniq h1 (setI_lt ns) fun k => by rw [h2 k, hM k, setI_mem]
      subst e2
      have S2 := S.shrink S1 fun a ha => .inl ha
      have sm := same_upd (o := .lst ((setI ns).map V.int)) hq
      exact k _ _ (S2.same sm) (l1.trans (.of sm)) (.lst (S2.notO hq) upd_same (RpA.ofInts _))
  · cases e
end
end RT

namespace RT
open PySem PySem.Spec PyProof.Rows L2
/-! ### sorted, of tuples of ints in 0 .. 63 of one length -/
def okTup (n : Nat) (ns : List Int) : Bool := decide (ns.length = n) && ns.all fun i => decide (0 ≤ i ∧ i < 64)
def tupsD (n : Nat) : List D → Option (List (List Int))
  | [] => some []
  | .tuple ds :: r => match intsD ds, tupsD n r with
    | some ns, some rs => if okTup n ns then some (ns :: rs) else none
    | _, _ => none
  | _ => none
def tupD (ns : List Int) : D := .tuple (ns.map .int)
theorem tupsD_ok {n : Nat} : ∀ {ds : List D} {rs : List (List Int)}, tupsD n ds = some rs → ds = rs.map tupD ∧ ∀ r ∈ rs, okTup n r = true
  | [], _, h => by cases h; exact ⟨rfl, fun r h => nomatch h⟩
  | d :: ds, rs, h => by
    unfold tupsD at h
    split at h
    · rename_i e; cases e
    · rename_i e
      cases e
      split at h
      · rename_i ns' rs' h1 h2
        split at h
        · rename_i h3
          cases h
          obtain ⟨a, b⟩ := tupsD_ok h2
          refine ⟨by rw [a, ints_ok h1]; rfl, fun r hr => ?_⟩
          rcases List.mem_cons.mp hr with rfl | hr
          · exact h3
          · exact b r hr
        · cases h
      · cases h
    · cases h
abbrev cdT (ns : List Int) : Int := TS.code 64 ns
def insT (n : List Int) : List (List Int) → List (List Int)
  | [] => [n]
  | m :: ms => if cdT n ≤ cdT m then n :: m :: ms else m :: insT n ms
def sortT : List (List Int) → List (List Int)
  | [] => []
  | n :: ns => insT n (sortT ns)
theorem insT_perm (n : List Int) : ∀ ms : List (List Int), (insT n ms).Perm (n :: ms)
  | [] => .refl _
  | m :: ms => by
    unfold insT
    split
    · exact .refl _
    · exact ((insT_perm n ms).cons m).trans (.swap n m ms)
theorem sortT_perm : ∀ ns : List (List Int), (sortT ns).Perm ns
  | [] => .refl _
  | n :: ns => (insT_perm n _).trans ((sortT_perm ns).cons n)
theorem insT_sorted (n : List Int) : ∀ ms : List (List Int), ms.Pairwise (fun a b => cdT a ≤ cdT b) → (insT n ms).Pairwise (fun a b => cdT a ≤ cdT b)
  | [], _ => by simp [insT]
  | m :: ms, h => by
    unfold insT
    have h' := List.pairwise_cons.mp h
    split
    · rename_i hn
      refine List.pairwise_cons.mpr ⟨fun a ha => ?_, h⟩
      rcases List.mem_cons.mp ha with rfl | ha
      · exact hn
      · exact Int.le_trans hn (h'.1 a ha)
    · rename_i hn
      refine List.pairwise_cons.mpr ⟨fun a ha => ?_, insT_sorted n ms h'.2⟩
      rcases List.mem_cons.mp ((insT_perm n ms).mem_iff.mp ha) with rfl | ha
      · omega
      · exact h'.1 a ha
theorem sortT_sorted : ∀ ns : List (List Int), (sortT ns).Pairwise (fun a b => cdT a ≤ cdT b)
  | [] => .nil
  | n :: ns => insT_sorted n _ (sortT_sorted ns)
theorem okTup_bd {n : Nat} {ns : List Int} (h : okTup n ns = true) : ns.length = n ∧ TS.Bd 64 ns := by
  unfold okTup at h
  rw [Bool.and_eq_true] at h
  exact ⟨of_decide_eq_true h.1, fun m hm => of_decide_eq_true (List.all_eq_true.mp h.2 m hm)⟩
theorem code_inj : ∀ {a b : List Int}, a.length = b.length → TS.Bd 64 a → TS.Bd 64 b → cdT a = cdT b → a = b
  | [], [], _, _, _, _ => rfl
  | [], _ :: _, h, _, _, _ => by simp at h
  | _ :: _, [], h, _, _, _ => by simp at h
  | x :: a, y :: b, h, ha, hb, e => by
    have hl : a.length = b.length := by simpa using h
    have exy : x = y := by
      by_cases h1 : x < y
      · have q := TS.code_lt hl ha.tail hb.tail h1
        have e : TS.code 64 (x :: a) = TS.code 64 (y :: b) := e
        omega
      · by_cases h2 : y < x
        · have q := TS.code_lt hl.symm hb.tail ha.tail h2
          have e : TS.code 64 (x :: a) = TS.code 64 (y :: b) := e
          omega
        · omega
    subst exy
    have e2 : cdT a = cdT b := by
      have e : x * 64 ^ a.length + TS.code 64 a = x * 64 ^ b.length + TS.code 64 b := e
      rw [hl] at e
      show TS.code 64 a = TS.code 64 b
      omega
    rw [code_inj hl ha.tail hb.tail e2]
theorem codes_uniq {n : Nat} : ∀ {l m : List (List Int)}, (∀ r ∈ l, okTup n r = true) → l.Perm m → l.Pairwise (fun a b => cdT a ≤ cdT b) → m.Pairwise (fun a b => cdT a ≤ cdT b) → l = m
  | [], m, _, h, _, _ => h.nil_eq
  | x :: l, [], _, h, _, _ => absurd h.length_eq (by simp)
  | x :: l, y :: m, ok, h, hl, hm => by
    have hl' := List.pairwise_cons.mp hl
    have hm' := List.pairwise_cons.mp hm
    have okm : ∀ r ∈ y :: m, okTup n r = true := fun r hr => ok r (h.mem_iff.mpr hr)
    have e : cdT x = cdT y := by
      have h1 : cdT y ≤ cdT x := by
        rcases List.mem_cons.mp (h.mem_iff.mp List.mem_cons_self) with e | e
        · rw [e]; exact Int.le_refl _
        · exact hm'.1 x e
      have h2 : cdT x ≤ cdT y := by
        rcases List.mem_cons.mp (h.mem_iff.mpr List.mem_cons_self) with e | e
        · rw [e]; exact Int.le_refl _
        · exact hl'.1 y e
      omega
    have exy : x = y := by
      obtain ⟨a1, a2⟩ := okTup_bd (ok x List.mem_cons_self)
      obtain ⟨b1, b2⟩ := okTup_bd (okm y List.mem_cons_self)
      exact code_inj (a1.trans b1.symm) a2 b2 e
    subst exy
    rw [codes_uniq (fun r hr => ok r (List.mem_cons_of_mem _ hr)) h.cons_inv hl'.2 hm'.2]
theorem RpA.perm {K : PySem.W.Frag} {O : Addr → Prop} {H : Hp} {xs ys : List V} (p : ys.Perm xs) : ∀ {ds : List D}, RpA K O H xs ds → ∃ es, es.Perm ds ∧ RpA K O H ys es := by
  induction p with
  | nil => exact fun r => ⟨_, .refl _, r⟩
  | cons x _ ih =>
    intro ds r
    cases r with
    | cons a b =>
      obtain ⟨es, p, q⟩ := ih b
      exact ⟨_, p.cons _, .cons a q⟩
  | swap x y l =>
    intro ds r
    cases r with
    | cons a r =>
      cases r with
      | cons b r => exact ⟨_, .swap _ _ _, .cons b (.cons a r)⟩
  | trans _ _ ih1 ih2 =>
    intro ds r
    obtain ⟨es, p, q⟩ := ih2 r
    obtain ⟨fs, p2, q2⟩ := ih1 q
    exact ⟨fs, p2.trans p, q2⟩
theorem tupD_inj {a b : List Int} (h : tupD a = tupD b) : a = b := by
  have h : a.map D.int = b.map D.int := by unfold tupD at h; injection h
  exact (List.map_inj_right (fun x y e => by injection e)).mp h
def gSortT : List D → Option D
  | [.list ds] => match ds with
    | .tuple xs :: _ => match tupsD xs.length ds with
      | some rs => if 1 ≤ xs.length ∧ rs.length < 64 then some (.list ((sortT rs).map tupD)) else none
      | none => none
    | [] => some (.list [])
    | _ => none
  | _ => none
section
variable {X : Cx} {a b c e : Expr} {es : List Expr} {fa fb fc f : FE} {pos : Pos}
theorem cr_sortTT : CallR X (.builtin "sorted") fun vs H Q => ∃ d, 1 ≤ d ∧ rSortU X.K d 64 vs H Q := by
  intro pins s σ H vs us Q I r h
  obtain ⟨d, hd, h⟩ := h
  exact cr_sortT hd pins s σ H vs us Q I r h
theorem cd_sortT : CallD X (.builtin "sorted") gSortT := by
  refine CallD.by (cr_sortedI.or cr_sortTT) fun g O σ env x ds z H vs Q S r e k => ?_
  unfold gSortT at e
  split at e
  · split at e
    · split at e
      · split at e
        · rename_i xs tl rest rs q hh
          cases e
          cases r with
          | cons r r' =>
            cases r'
            obtain ⟨p, ys, rfl, hp, rx⟩ := r.lst
            obtain ⟨e1, ok⟩ := tupsD_ok q
            have hlen : ys.length = rs.length := by rw [rx.length, e1, List.length_map]
            have itm : ∀ y d, Rp X.K O H y d → ∀ ns, d = tupD ns → TupI X.K H y ns := fun y d ry ns ed => by
              subst ed
              obtain ⟨t, us, rfl, ht, rt⟩ := ry.tupAt
              rw [rt.ints] at ht
              exact ⟨t, rfl, .of ht⟩
            refine .inr ⟨xs.length, hh.1, p, ys, rfl, .of hp, by rw [hlen]; exact hh.2, fun y hy => ?_, fun zs l hperm hsort hl => ?_⟩
            · obtain ⟨i, hi⟩ := List.getElem?_of_mem hy
              obtain ⟨d, hd, rd⟩ := rx.get' hi
              rw [e1] at hd
              obtain ⟨ns, hns, rfl⟩ := List.mem_map.mp (List.mem_of_getElem? hd)
              obtain ⟨b1, b2⟩ := okTup_bd (ok ns hns)
              exact ⟨ns, itm y _ rd ns rfl, b1, b2⟩
            · obtain ⟨es, pe, re⟩ := rx.perm hperm
              rw [e1] at pe
              obtain ⟨ms, rfl, pm⟩ : ∃ ms : List (List Int), es = ms.map tupD ∧ ms.Perm rs := by
                have hm : ∀ e ∈ es, ∃ ns, e = tupD ns := fun e he => by
                  obtain ⟨ns, _, q⟩ := List.mem_map.mp (pe.mem_iff.mp he)
                  exact ⟨ns, q.symm⟩
                have : ∀ es : List D, (∀ e ∈ es, ∃ ns, e = tupD ns) → ∃ ms : List (List Int), es = ms.map tupD := fun es => by
                  induction es with
                  | nil => exact fun _ => ⟨[], rfl⟩
                  | cons e es ih =>
                    intro h
                    obtain ⟨n, rfl⟩ := h e List.mem_cons_self
                    obtain ⟨m, rfl⟩ := ih fun e he => h e (List.mem_cons_of_mem _ he)
                    exact ⟨n :: m, rfl⟩
                obtain ⟨ms, rfl⟩ := this es hm
                refine ⟨ms, rfl, ?_⟩
                have key : ∀ l : List (List Int), (l.map tupD).map (fun d => match d with | .tuple ds => (intsD ds).getD [] | _ => []) = l := fun l => by
                  rw [List.map_map]
                  conv => rhs; rw [← List.map_id l]
                  refine List.map_congr_left fun a _ => ?_
                  show (intsD (a.map D.int)).getD [] = a
                  rw [ints_map]
                  rfl
                have := pe.map (fun d => match d with | D.tuple ds => (intsD ds).getD [] | _ => [])
                rw [key, key] at this
                exact this
              have srt : ms.Pairwise (fun a b => cdT a ≤ cdT b) := by
                have go : ∀ {zs : List V} {ms : List (List Int)}, RpA X.K O H zs (ms.map tupD) → zs.Pairwise (fun x y => ∀ n m, TupI X.K H x n → TupI X.K H y m → TS.code 64 n ≤ TS.code 64 m) → ms.Pairwise (fun a b => cdT a ≤ cdT b) := by
                  intro zs ms
                  induction ms generalizing zs with
                  | nil => exact fun _ _ => .nil
                  | cons m ms ih =>
                    intro rz hz
                    cases rz with
                    | cons a b =>
                      have hz' := List.pairwise_cons.mp hz
                      refine List.pairwise_cons.mpr ⟨fun m2 hm2 => ?_, ih b hz'.2⟩
                      obtain ⟨i, hi⟩ := List.getElem?_of_mem (List.mem_map.mpr ⟨m2, hm2, rfl⟩ : tupD m2 ∈ ms.map tupD)
                      obtain ⟨y, hy, ry⟩ := b.get hi
                      exact hz'.1 y (List.mem_of_getElem? hy) m m2 (itm _ _ a m rfl) (itm _ _ ry m2 rfl)
                exact go re hsort
              have e2 : ms = sortT rs := codes_uniq (fun r hr => ok r (pm.mem_iff.mp hr)) (pm.trans (sortT_perm rs).symm) srt (sortT_sorted rs)
              subst e2
              have sm := same_upd (o := .lst zs) hl
              exact k _ _ sm (.lst (S.notO hl) upd_same (re.move (.of sm) .refl))
        · cases e
      · cases e
    · cases e
      cases r with
      | cons r r' =>
        cases r'
        obtain ⟨p, ys, rfl, hp, rx⟩ := r.lst
        cases rx
        refine .inl ⟨p, [], rfl, .of hp, fun ns' l h1 h2 hl => ?_⟩
        have e2 : ns' = [] := h1.eq_nil
        subst e2
        have sm := same_upd (o := .lst []) hl
        exact k _ _ sm (.lst (S.notO hl) upd_same .nil)
    · cases e
  · cases e
/-! ### xs.index(d) -/
def idxD (d : D) : List D → Option Nat
  | [] => none
  | z :: zs => if eqD z d then some 0 else (idxD d zs).map (· + 1)
theorem idxD_ok {d : D} : ∀ {ds : List D} {j : Nat}, idxD d ds = some j → ∃ z, (pyAll ds)[j]? = some z ∧ PyData.eqv z d.py = true ∧ ∀ (m : Nat) z', m < j → (pyAll ds)[m]? = some z' → PyData.eqv z' d.py = false
  | [], _, h => nomatch h
  | x :: ds, j, h => by
    unfold idxD at h
    split at h
    · rename_i q
      cases h
      refine ⟨x.py, by simp [pyAll], q, fun m z' hm => absurd hm (Nat.not_lt_zero m)⟩
    · rename_i q
      cases h2 : idxD d ds with
      | none => rw [h2] at h; cases h
      | some i =>
        rw [h2] at h
        cases h
        obtain ⟨z, a, b, c⟩ := idxD_ok h2
        refine ⟨z, by simpa [pyAll] using a, b, fun m z' hm hz => ?_⟩
        cases m with
        | zero =>
          have e : x.py = z' := by simpa [pyAll] using hz
          rw [← e]
          exact Bool.eq_false_iff.mpr q
        | succ m =>
          have hm : m + 1 < i + 1 := hm
          exact c m z' (by omega) (by simpa [pyAll] using hz)
def fIndex (fa fb : FE) : FE := fBin (fun l d => match l with
  | .list ds => if shapedD (.list ds) && shapedD d then match idxD d ds with
    | some j => some (.int (j : Nat))
    | none => none
    else none
  | _ => none) fa fb
theorem se_index {apos cpos : Pos} (hu : X.A.units + 65 < cLine) (ha : SB X a fa) (hb : SB X b fb)
    (hbase : attributeBase a "index" X.env (eval a X.env) = eval a X.env := by rfl)
    (hfew : ((backTo cpos (starEach (b :: []) X.env)).all (fun x => !x.1) && (backToKw cpos (keywordEach [] X.env)).all (fun x => x.1.isSome)
      && decide ((b :: []).length + ([] : List Keyword).length + (if ([] : List Keyword).isEmpty then 0 else 1) < 30)) = true := by rfl)
    (hline : (apos.endLine == cpos.line) = true := by rfl) (hss : starEach (b :: []) X.env = (false, eval b X.env) :: starEach [] X.env := by rfl) (hplain : (backTo cpos (starEach [] X.env)).any (·.1) = false := by rfl) :
    SE X (.Call (.Attribute a "index" apos) [b] [] cpos) (fIndex fa fb) := by
  refine ⟨PEw (pe_bm PySem.F.plainAttrs_list PySem.F.slot_list_index PySem.F.type_list_index (mt_indexD hu) ha.out (pa_cons hb.out pa_nil hss) hbase hfew hline hss hplain) fun σ H Q h => ?_⟩
  obtain ⟨g, O, env, x, d, x', S, e, k⟩ := h
  obtain ⟨da, x1, db, r, e1, e2, e3, rfl⟩ := fBin_some e
  split at e3
  · rename_i ds
    split at e3
    · rename_i sh
      split at e3
      · rename_i j ej
        cases e3
        obtain ⟨s1, s2⟩ := Bool.and_eq_true_iff.mp sh
        refine ⟨g, O, env, x, _, x1, S, e1, fun v H1 S1 l1 r1 => ?_⟩
        obtain ⟨p, xs, rfl, hp, rx⟩ := r1.lst
        refine ⟨.inl ⟨rfl, _, .of hp⟩, g, O, env, x1, _, x', S1, e2, fun w H2 S2 l2 r2 => ?_⟩
        obtain ⟨z, a1, a2, a3⟩ := idxD_ok ej
        have h3 := (RpB.step S1 l2 r1).dp s1
        simp only [shapedD, D.py] at s1 s2 h3
        exact ⟨p, w, db.py, pyAll ds, j, z, rfl, rfl, h3, r2.dp s2, s1, s2, a1, a2, a3, k _ _ S2 (l1.trans l2) (.int _)⟩
      · cases e3
    · cases e3
  · cases e3
end
/-! ### the law -/
def spLaw (K : PySem.W.Frag) (b : FS) (n : Nat) (seed : Int) : Sp := fun vs H Q _ => ∃ (T : List (Addr × Str)) (a : Addr) (ns : List Int) (x' : FRow), TOK K T ∧ LamX.Tabs T H ∧ vs = [.ref a] ∧ ((∃ o, H a = some (.frz o (.lst (ns.map V.int)))) ∨ SqL K (fun _ => none) a (ns.map V.int)) ∧
  b (.no :: .rw :: List.replicate n .no) ⟨ns, 0, seed, 0⟩ = some (.rt (.bool true), x') ∧ ∀ H', Q (.bl true) H'
theorem ok_law {P : Program} {w : World} {K : PySem.W.Frag} {mg : Str → Option Value} {base : Heap} {x qual n0 n1 : Str} {st : Stmt} {rest : List Stmt} {f : Addr} {fd : FuncData} {more : List Str} {k : Nat} {b : FS} {seed : Int} {i1 i2 i3 : Nat} {p1 p2 p3 p4 p5 p6 pos : Pos}
    (F : Fun K x qual st f fd) (S : FnScope (n0 :: n1 :: more) [n0] (defScope st)) (hb : defBody st = .Assign [.Name n1 p1] (.List [.Name n0 p2, .Constant (.int 0) i1 p3, .Constant (.int seed) i2 p4, .Constant (.int 0) i3 p5] p6) pos :: rest)
    (hs : ∀ (cdv : Value) (A : Around) (outer : List Env) (s : Shared) (H : Hp) (E : XK),
      PS (cxOf CX0 P w K mg base (n0 :: n1 :: more) qual (defScope st) f cdv A outer s H E).nox (.Assign [.Name n1 p1] (.List [.Name n0 p2, .Constant (.int 0) i1 p3, .Constant (.int seed) i2 p4, .Constant (.int 0) i3 p5] p6) pos)
        (tAsg (tLst (tCons (tVar 0) (tCons (tC (.int 0)) (tCons (tC (.int seed)) (tCons (tC (.int 0)) tNil))))) (gName 1)))
    (h : ∀ (cdv : Value) (A : Around) (outer : List Env) (s : Shared) (H : Hp) (E : XK), Room k (A.deeper (envOfC qual (defScope st) s.heap.objs.size f cdv)) → SSs (cxOf CX0 P w K mg base (n0 :: n1 :: more) qual (defScope st) f cdv A outer s H E).nox rest b) :
    FnOk P w K mg base CX0 (k + 1) f fd [n0] (spLaw K b more.length seed) := by
  refine F.ok S (fun vs H Q E h => ?_) (fun cdv A outer s H vs Q E hr hsp => ?_)
  · obtain ⟨T, a, ns, x', _, _, rfl, _⟩ := h
    rfl
  · obtain ⟨T, a, ns, x', tk, tb, rfl, ha, e, q⟩ := hsp
    rw [hb]
    refine ⟨_, pss_cons (hs cdv A outer s H E) (h cdv A outer s H E hr).out, ?_⟩
    refine ⟨_, rfl, maxLen_ok (show 4 ≤ maxLen by decide), fun p hp => ?_⟩
    refine ⟨⟨fun z => z = p, noT (upd H p (.lst [.ref a, .int 0, .int seed, .int 0])), some p, [], T, w⟩, fun z => z = p, .no :: .rw :: List.replicate more.length .no, ⟨ns, 0, seed, 0⟩, .rt (.bool true), x', ?_, e, fun O' σ' H' v env' S' r => ?_⟩
    · refine ⟨fun _ h => h, fun _ h => .inl h, fun z hz => by rw [hz, upd_same]; exact True.intro, (fun a o _ e _ => (noT_some e).1), fun r hr => ?_, ?_, fun i s e h1 h2 => ?_, fun i j d d' a b ne h1 h2 h3 h4 => ?_, (fun r hr => nomatch hr), tb.ext (same_upd hp), tk, fun a o e => (noT_some e).2, rfl⟩
      · have e : p = r := Option.some.inj hr
        subst e
        refine ⟨rfl, (by show noT (upd H p (.lst [V.ref a, V.int 0, V.int seed, V.int 0])) p ≠ none; rw [noT_of upd_same rfl]; exact fun z => nomatch z), a, upd_same, ?_⟩
        rcases ha with ⟨o, ha⟩ | ha
        · refine .inl ⟨o, ?_⟩
          rw [upd_ne (ne_of_none ha hp)]
          exact ha
        · exact .inr ha
      · simp [gName, L2.start]
      · cases i with
        | zero =>
          have e2 := Option.some.inj h2
          subst e2
          exact .no _
        | succ i =>
          cases i with
          | zero =>
            have e2 := Option.some.inj h2
            subst e2
            have e1 := Option.some.inj h1
            subst e1
            exact .rw rfl
          | succ i =>
            have h2 : (List.replicate more.length FSl.no)[i]? = some e := by simpa using h2
            have := (List.mem_replicate.mp (List.mem_of_getElem? h2)).2
            subst this
            exact .no _
      · have at1 : ∀ {i : Nat} {d : OwD}, (FSl.no :: FSl.rw :: List.replicate more.length FSl.no)[i]? ≠ some (.ow d) := fun {i d} z => by
          have z := List.mem_of_getElem? z
          simp at z
        exact absurd h1 at1
    · cases r
      exact q H'
end RT

namespace RT
open PySem PySem.Spec PyProof.Rows L2
/-! ### several stores at once -/
inductive VsOk (K : PySem.W.Frag) (g : FG) (O' : Addr → Prop) (H H' : Hp) : List V → List FSl → Prop
  | nil : VsOk K g O' H H' [] []
  | cons {v : V} {sl : FSl} {vs : List V} {sls : List FSl} : SlOk K g O' H' (some v) sl → (∀ d, sl = .ow d → ∃ p, v = .ref p ∧ Gone H p ∧ ∀ (i : Nat) d', sls[i]? = some (.ow d') → vs[i]? ≠ some (.ref p)) → VsOk K g O' H H' vs sls → VsOk K g O' H H' (v :: vs) (sl :: sls)
abbrev FXs := FEn → FRow → Option (List FSl × FRow)
def tXs (ω : World) (K : PySem.W.Frag) (f : FXs) : TA := fun σ H Q => ∃ g O env x sls x', FSt ω K g O σ H env x ∧ f env x = some (sls, x') ∧
  ∀ O' vs H', FSt ω K g O' σ H' env x' → Le g H H' → Wid O O' H → (∀ a, O a → O' a) → VsOk K g O' H H' vs sls → Q vs H'
structure SXs (X : Cx) (es : List Expr) (f : FXs) : Prop where
  out : PA X es (tXs X.w X.K f)
def xsNil : FXs := fun _ x => some ([], x)
def xsCons (f : FX) (h : FXs) : FXs := fun env x => match f env x with
  | some (sl, x1) => match h env x1 with
    | some (sls, x2) => some (sl :: sls, x2)
    | none => none
  | none => none
section
variable {ω : World} {K : PySem.W.Frag} {g : FG} {O O' : Addr → Prop} {σ : L2.St} {H H' H1 : Hp} {env : FEn} {x x' : FRow}
theorem VsOk.at {vs : List V} {sls : List FSl} (h : VsOk K g O' H H' vs sls) : ∀ (i : Nat) d, sls[i]? = some (.ow d) → ∃ p, vs[i]? = some (.ref p) ∧ Gone H p := by
  induction h with
  | nil => intro i d e; simp at e
  | cons r n _ ih =>
    intro i d e
    cases i with
    | zero =>
      obtain ⟨p, e1, e2, _⟩ := n d (Option.some.inj e)
      subst e1
      exact ⟨p, rfl, e2⟩
    | succ i => exact ih i d (by simpa using e)
theorem VsOk.base {vs : List V} {sls : List FSl} (h : VsOk K g O' H1 H' vs sls) (k : ∀ p, Gone H1 p → Gone H p) : VsOk K g O' H H' vs sls := by
  induction h with
  | nil => exact .nil
  | cons r n _ ih => exact .cons r (fun d e => let ⟨p, a, b, c⟩ := n d e; ⟨p, a, k p b, c⟩) ih
theorem VsOk.length {vs : List V} {sls : List FSl} (h : VsOk K g O' H H' vs sls) : vs.length = sls.length := by
  induction h with
  | nil => rfl
  | cons _ _ _ ih => rw [List.length_cons, List.length_cons, ih]
def setsV (σ : L2.St) : List Nat → List V → L2.St
  | i :: is, v :: vs => setsV (σ.set i (some v)) is vs
  | _, _ => σ
def setsE (env : FEn) : List Nat → List FSl → FEn
  | i :: is, s :: ss => setsE (env.set i s) is ss
  | _, _ => env
theorem FSt.sets {vs : List V} {sls : List FSl} (v : VsOk K g O' H H' vs sls) : ∀ {σ : L2.St} {env : FEn} (is : List Nat), FSt ω K g O' σ H' env x' → (∀ (i : Nat) d p, sls[i]? = some (.ow d) → vs[i]? = some (.ref p) → ∀ (j : Nat) d' b, env[j]? = some (.ow d') → σ[j]? = some (some (.ref b)) → b ≠ p) → FSt ω K g O' (setsV σ is vs) H' (setsE env is sls) x' := by
  induction v with
  | nil => intro σ env is S _; cases is <;> exact S
  | @cons v sl vs sls r n hv ih =>
    intro σ env is S hn
    cases is with
    | nil => exact S
    | cons i is =>
      refine ih is (S.setv i r fun d e => ?_) fun j d p e1 e2 k d' b e3 e4 => ?_
      · obtain ⟨p, e1, e2, _⟩ := n d e
        subst e1
        exact ⟨p, rfl, fun j d' b h1 h2 => hn 0 d p (by rw [e]; rfl) rfl j d' b h1 h2⟩
      · rcases set_at e3 with ⟨z1, z2⟩ | ⟨z1, z2⟩
        · rcases set_at e4 with ⟨z3, z4⟩ | ⟨z3, z4⟩
          · obtain ⟨q, e5, e6, e7⟩ := n d' z2.symm
            have z4 : V.ref b = v := Option.some.inj z4
            rw [e5] at z4
            cases z4
            exact fun z => e7 j d e1 (by rw [z]; exact e2)
          · exact absurd z1 z3
        · rcases set_at e4 with ⟨z3, z4⟩ | ⟨z3, z4⟩
          · exact absurd z3 z1
          · exact hn (j + 1) d p (by simpa using e1) (by simpa using e2) k d' b z2 z4
end
section
variable {X : Cx} {a b c e : Expr} {es : List Expr} {fa fb fc f : FE} {pos : Pos}
theorem sxs_nil : SXs X [] xsNil := by
  refine ⟨PAw pa_nil fun σ H Q h => ?_⟩
  obtain ⟨g, O, env, x, d, x', S, e, k⟩ := h
  cases e
  exact k O _ _ S (Le.refl _ _) .refl (fun _ h => h) .nil
theorem sxs_cons {f : FX} {t : FXs} (h : SX X e f) (ht : SXs X es t) (hs : starEach (e :: es) X.env = (false, eval e X.env) :: starEach es X.env := by rfl) : SXs X (e :: es) (xsCons f t) := by
  refine ⟨PAw (pa_cons h.out ht.out hs) fun σ H Q h => ?_⟩
  obtain ⟨g, O, env, x, sl, x', S, e, k⟩ := h
  unfold xsCons at e
  split at e
  · rename_i s1 x1 e1
    split at e
    · rename_i ss x2 e2
      cases e
      refine ⟨g, O, env, x, s1, x1, S, e1, fun O1 v H1 S1 l1 w1 sub1 r1 n1 => ⟨g, O1, env, x1, ss, x', S1, e2, fun O2 vs H2 S2 l2 w2 sub2 r2 => ?_⟩⟩
      refine k O2 _ H2 S2 (l1.trans l2) (fun a ha => ?_) (fun a ha => sub2 a (sub1 a ha)) (.cons (sl_move S1 l2 w2 sub2 r1) (fun d z => ?_) (r2.base fun p hp => Le.gone l1 hp S1))
      · rcases w2 a ha with z | z
        · exact w1 a z
        · exact .inr (Le.gone l1 z S1)
      · obtain ⟨p, e3, hp⟩ := n1 d z
        subst e3
        refine ⟨p, rfl, hp, fun i d' e4 e5 => ?_⟩
        obtain ⟨q, e6, hq⟩ := r2.at i d' e4
        rw [e5] at e6
        cases e6
        subst z
        cases r1 with
        | ow _ _ _ t => exact t.live hq rfl
    · cases e
  · cases e
def sPars (is : List Nat) (f : FXs) : FS := fun env x => match f env x with
  | some (sls, x1) => if sls.length = is.length then some (.nx (setsE env is sls), x1) else none
  | none => none
theorem pars_read {ω : World} {K : PySem.W.Frag} {is : List Nat} {f : FXs} {Dn : Ends} {σ : L2.St} {H : Hp} (h : tS ω K (sPars is f) Dn σ H) : tXs ω K f σ H fun vs H' => vs.length = is.length ∧ (∃ g O env x, FSt ω K g O σ H' env x ∧ ∀ H2, Same H' H2 → Dn.nx (setsV σ is vs) H2) := by
  obtain ⟨g, O, env, x, r, x', S, e, k⟩ := h
  unfold sPars at e
  split at e
  · rename_i sls x1 e1
    split at e
    · rename_i hl
      cases e
      refine ⟨g, O, env, x, sls, x', S, e1, fun O' vs H' S' l w sub v => ⟨by rw [v.length, hl], g, O', env, x', S', fun H2 sm => ?_⟩⟩
      have hn : ∀ (i : Nat) d p, sls[i]? = some (.ow d) → vs[i]? = some (.ref p) → ∀ (j : Nat) d' b, env[j]? = some (.ow d') → σ[j]? = some (some (.ref b)) → b ≠ p := fun i d p h1 h2 j d' b h3 h4 => by
        obtain ⟨q, e2, hq⟩ := v.at i d h1
        rw [h2] at e2
        cases e2
        exact own_ne S hq h3 h4
      exact k O' _ H2 ((FSt.sets v is S' hn).same sm)
    · cases e
  · cases e
theorem ss_par2 {i j : Nat} {n m : Str} {f : FXs} {px py pt : Pos} {kt k2 pt2} (hc : X.calm = true) (hN : X.N.Nodup) (hi : X.N[i]? = some n) (hj : X.N[j]? = some m) (hij : i ≠ j)
    (hx : X.env.scope.names.lookup n = some .local) (hy : X.env.scope.names.lookup m = some .local) (ha : SXs X [a, b] f)
    (hw : swappedStores [.Tuple [.Name n px, .Name m py] kt pt] (.Tuple [a, b] k2 pt2) X.env = pure (some [n, m]))
    (hs : swapsWithSole [.Tuple [.Name n px, .Name m py] kt pt] (.Tuple [a, b] k2 pt2) pos.line X.env = pure false := by rfl) :
    SS X (.Assign [.Tuple [.Name n px, .Name m py] kt pt] (.Tuple [a, b] k2 pt2) pos) (sPars [i, j] f) := by
  refine ⟨PSw (ps_par hc hN hi hj hij hx hy ha.out hw hs) fun Dn σ H h => ?_⟩
  obtain ⟨g, O, env, x, sls, x', S, e, k⟩ := pars_read h
  refine ⟨g, O, env, x, sls, x', S, e, fun O' vs H' S' l w sub v => ?_⟩
  obtain ⟨hl, _, _, _, _, _, q⟩ := k O' vs H' S' l w sub v
  match vs, hl with
  | [v1, v2], _ => exact ⟨v1, v2, rfl, q H' (Same.refl _)⟩
theorem ss_par3 {i j l : Nat} {n m o : Str} {f : FXs} {px py pz pt : Pos} {kt k2 pt2} (hc : X.calm = true) (hN : X.N.Nodup) (hi : X.N[i]? = some n) (hj : X.N[j]? = some m) (hl : X.N[l]? = some o) (hij : i ≠ j) (hil : i ≠ l) (hjl : j ≠ l)
    (hx : X.env.scope.names.lookup n = some .local) (hy : X.env.scope.names.lookup m = some .local) (hz : X.env.scope.names.lookup o = some .local) (ha : SXs X [a, b, c] f)
    (hw : swappedStores [.Tuple [.Name n px, .Name m py, .Name o pz] kt pt] (.Tuple [a, b, c] k2 pt2) X.env = pure (some [n, m, o]))
    (hs : swapsWithSole [.Tuple [.Name n px, .Name m py, .Name o pz] kt pt] (.Tuple [a, b, c] k2 pt2) pos.line X.env = pure false := by rfl) :
    SS X (.Assign [.Tuple [.Name n px, .Name m py, .Name o pz] kt pt] (.Tuple [a, b, c] k2 pt2) pos) (sPars [i, j, l] f) := by
  refine ⟨PSw (ps_par3 hc hN hi hj hl hij hil hjl hx hy hz ha.out hw hs) fun Dn σ H h => ?_⟩
  obtain ⟨g, O, env, x, sls, x', S, e, k⟩ := pars_read h
  refine ⟨g, O, env, x, sls, x', S, e, fun O' vs H' S' l w sub v => ?_⟩
  obtain ⟨hl, _, _, _, _, _, q⟩ := k O' vs H' S' l w sub v
  match vs, hl with
  | [v1, v2, v3], _ => exact ⟨v1, v2, v3, rfl, q H' (Same.refl _)⟩
/-- by way of a tuple -/
inductive PNs (X : Cx) : List Nat → List Expr → Prop
  | nil : PNs X [] []
  | cons {i : Nat} {n : Str} {p : Pos} {is : List Nat} {es : List Expr} : X.N[i]? = some n → Loc X.env.scope n → (X.fn n = true ∨ X.env.scope.names.lookup n = some .local) → (assignEach (.Name n p :: es) X.env).map (·.2) = assign (.Name n p) X.env :: (assignEach es X.env).map (·.2) → PNs X is es → PNs X (i :: is) (.Name n p :: es)
def tNs : List Nat → TGs
  | [] => gNil
  | i :: is => gCons (gName i) (tNs is)
theorem pgs_ns {is : List Nat} {ts : List Expr} (hN : X.N.Nodup) (h : PNs X is ts) : PGs X ts (tNs is) := by
  induction h with
  | nil => exact pgs_nil
  | cons h1 h2 h3 h4 _ ih => exact pgs_cons (pg_name hN h1 h2 h3) ih h4
theorem ns_read : ∀ {is : List Nat} {vs : List V} {σ : L2.St} {H : Hp} {Q : L2.St → Hp → Prop}, vs.length = is.length → Q (setsV σ is vs) H → tNs is vs σ H Q
  | [], [], _, _, _, _, q => ⟨rfl, q⟩
  | [], _ :: _, _, _, _, h, _ => by simp at h
  | _ :: _, [], _, _, _, h, _ => by simp at h
  | i :: is, v :: vs, σ, H, Q, h, q => ⟨v, vs, rfl, ns_read (is := is) (by simpa using h) q⟩
theorem ss_parT {is : List Nat} {ts vs : List Expr} {f : FXs} {kt k2 : Nat} {pt pt2 : Pos} (hc : X.calm = true) (hN : X.N.Nodup) (hn : PNs X is ts) (ha : SXs X vs f) (hlen : is.length ≤ 100)
    (hn1 : (assignEach ts X.env).length = is.length) (hst : (assignEach ts X.env).findIdx? (·.1) = none)
    (hs : swapsWithSole [.Tuple ts kt pt] (.Tuple vs k2 pt2) pos.line X.env = pure false) (hw : swappedStores [.Tuple ts kt pt] (.Tuple vs k2 pt2) X.env = pure none)
    (h1 : (assignEach [.Tuple ts kt pt] X.env).map (·.2) = [assign (.Tuple ts kt pt) X.env]) : SS X (.Assign [.Tuple ts kt pt] (.Tuple vs k2 pt2) pos) (sPars is f) := by
  refine ⟨PSw (ps_asg (pe_tup ha.out) (pg_tup hc (pgs_ns hN hn) hn1 hst) hs hw h1) fun Dn σ H h => ?_⟩
  obtain ⟨g, O, env, x, sls, x', S, e, k⟩ := pars_read h
  refine ⟨g, O, env, x, sls, x', S, e, fun O' vs H' S' l w sub v => ?_⟩
  obtain ⟨hl, _, _, _, _, _, q⟩ := k O' vs H' S' l w sub v
  refine ⟨maxLen_ok (Nat.le_trans (show vs.length ≤ 100 by rw [hl]; exact hlen) (by decide)), fun p hp => ?_⟩
  exact ⟨p, vs, rfl, .of upd_same, hl, ns_read hl (q _ (same_upd hp))⟩
/-! ### subscripts and in, whatever the thing is -/
def gAt : D → D → Option D
  | .list ds, .int i => atI ds i
  | .tuple ds, .int i => atI ds i
  | .dict kvs, k => gDAt (.dict kvs) k
  | .dictT kvs, k => gDAt (.dictT kvs) k
  | _, _ => none
theorem fBin_of {gd : D → D → Option D} {fa fb : FE} {env : FEn} {x x1 : FRow} {d e r : D} {x2 : FRow} (h1 : fa env x = some (d, x1)) (h2 : fb env x1 = some (e, x2)) (h3 : gd d e = some r) : fBin gd fa fb env x = some (r, x2) := by
  unfold fBin
  rw [h1]
  dsimp only
  rw [h2]
  dsimp only
  rw [h3]
theorem se_at (hu : X.A.units + 1 < cLine) (ha : SB X a fa) (hb : SB X b fb) (hs : PlainIx b := by exact fun _ _ => rfl) (hs2 : NoSl b := by exact fun _ _ => rfl) : SE X (.Subscript a b pos) (fBin gAt fa fb) := by
  refine ⟨⟨fun pins s σ H Q I h => ?_⟩⟩
  obtain ⟨g, O, env, x, d, x', S, e, k⟩ := h
  obtain ⟨da, x1, db, r, e1, e2, e3, rfl⟩ := fBin_some e
  have ix : ∀ r, gIx da db = some r → r = r := fun _ _ => rfl
  unfold gAt at e3
  split at e3
  · exact (se_ix ha hb hs).out.run pins s σ H Q I ⟨g, O, env, x, _, x', S, fBin_of e1 e2 (show gIx (.list _) (.int _) = some _ from e3), k⟩
  · exact (se_ix ha hb hs).out.run pins s σ H Q I ⟨g, O, env, x, _, x', S, fBin_of e1 e2 (show gIx (.tuple _) (.int _) = some _ from e3), k⟩
  · exact (se_dget hu ha hb hs2).out.run pins s σ H Q I ⟨g, O, env, x, _, x', S, fBin_of e1 e2 e3, k⟩
  · exact (se_dget hu ha hb hs2).out.run pins s σ H Q I ⟨g, O, env, x, _, x', S, fBin_of e1 e2 e3, k⟩
  · cases e3
def gInA : D → D → Option D := fun d e => match e with
  | .list ds => gIn d (.list ds)
  | .dict kvs => gDIn d (.dict kvs)
  | .dictT kvs => gDIn d (.dictT kvs)
  | _ => none
def gNotInA : D → D → Option D := fun d e => match e with
  | .list ds => gNotIn d (.list ds)
  | .dict kvs => gDNotIn d (.dict kvs)
  | .dictT kvs => gDNotIn d (.dictT kvs)
  | _ => none
theorem se_inA (hu : X.A.units + 65 < cLine) (ha : SB X a fa) (hb : SB X b fb) (hm : behindInMarks .In b = false := by rfl) : SE X (.Compare a [.In] [b] pos) (fBin gInA fa fb) := by
  refine ⟨⟨fun pins s σ H Q I h => ?_⟩⟩
  obtain ⟨g, O, env, x, d, x', S, e, k⟩ := h
  obtain ⟨da, x1, db, r, e1, e2, e3, rfl⟩ := fBin_some e
  unfold gInA at e3
  split at e3
  · exact (se_cmp (od_in hu) ha hb hm).out.run pins s σ H Q I ⟨g, O, env, x, _, x', S, fBin_of e1 e2 e3, k⟩
  · exact (se_din (by omega) ha hb hm).out.run pins s σ H Q I ⟨g, O, env, x, _, x', S, fBin_of e1 e2 e3, k⟩
  · exact (se_din (by omega) ha hb hm).out.run pins s σ H Q I ⟨g, O, env, x, _, x', S, fBin_of e1 e2 e3, k⟩
  · cases e3
theorem se_notInA (hu : X.A.units + 65 < cLine) (ha : SB X a fa) (hb : SB X b fb) (hm : behindInMarks .NotIn b = false := by rfl) : SE X (.Compare a [.NotIn] [b] pos) (fBin gNotInA fa fb) := by
  refine ⟨⟨fun pins s σ H Q I h => ?_⟩⟩
  obtain ⟨g, O, env, x, d, x', S, e, k⟩ := h
  obtain ⟨da, x1, db, r, e1, e2, e3, rfl⟩ := fBin_some e
  unfold gNotInA at e3
  split at e3
  · exact (se_cmp (od_notIn hu) ha hb hm).out.run pins s σ H Q I ⟨g, O, env, x, _, x', S, fBin_of e1 e2 e3, k⟩
  · exact (se_dnot (by omega) ha hb hm).out.run pins s σ H Q I ⟨g, O, env, x, _, x', S, fBin_of e1 e2 e3, k⟩
  · exact (se_dnot (by omega) ha hb hm).out.run pins s σ H Q I ⟨g, O, env, x, _, x', S, fBin_of e1 e2 e3, k⟩
  · cases e3
theorem fTst_of {f : FE} {env : FEn} {x x' : FRow} {b : Bool} (h : f env x = some (.bool b, x')) : fTst f env x = some (b, x') := by
  unfold fTst
  rw [h]
theorem st_inA (hu : X.A.units + 65 < cLine) (ha : SB X a fa) (hb : SB X b fb) (hm : behindInMarks .In b = false := by rfl) : ST X (.Compare a [.In] [b] pos) (fTst (fBin gInA fa fb)) := by
  refine ⟨⟨fun pins s σ H Q I h => ?_⟩⟩
  obtain ⟨g, O, env, x, d, x', S, e, k⟩ := h
  obtain ⟨da, x1, db, r, e1, e2, e3, e4⟩ := fBin_some (fTst_some e)
  have e4 : r = .bool d := e4
  subst e4
  have e2 : fb env x1 = some (db, x') := e2
  unfold gInA at e3
  split at e3
  · exact (st_cmp (od_in hu) ha hb hm).out.run pins s σ H Q I ⟨g, O, env, x, _, x', S, fTst_of (fBin_of e1 e2 e3), k⟩
  · exact (st_din (by omega) ha hb hm).out.run pins s σ H Q I ⟨g, O, env, x, _, x', S, fTst_of (fBin_of e1 e2 e3), k⟩
  · exact (st_din (by omega) ha hb hm).out.run pins s σ H Q I ⟨g, O, env, x, _, x', S, fTst_of (fBin_of e1 e2 e3), k⟩
  · cases e3
theorem st_notInA (hu : X.A.units + 65 < cLine) (ha : SB X a fa) (hb : SB X b fb) (hm : behindInMarks .NotIn b = false := by rfl) : ST X (.Compare a [.NotIn] [b] pos) (fTst (fBin gNotInA fa fb)) := by
  refine ⟨⟨fun pins s σ H Q I h => ?_⟩⟩
  obtain ⟨g, O, env, x, d, x', S, e, k⟩ := h
  obtain ⟨da, x1, db, r, e1, e2, e3, e4⟩ := fBin_some (fTst_some e)
  have e4 : r = .bool d := e4
  subst e4
  have e2 : fb env x1 = some (db, x') := e2
  unfold gNotInA at e3
  split at e3
  · exact (st_cmp (od_notIn hu) ha hb hm).out.run pins s σ H Q I ⟨g, O, env, x, _, x', S, fTst_of (fBin_of e1 e2 e3), k⟩
  · exact (st_dnot (by omega) ha hb hm).out.run pins s σ H Q I ⟨g, O, env, x, _, x', S, fTst_of (fBin_of e1 e2 e3), k⟩
  · exact (st_dnot (by omega) ha hb hm).out.run pins s σ H Q I ⟨g, O, env, x, _, x', S, fTst_of (fBin_of e1 e2 e3), k⟩
  · cases e3
/-- < of tuples of ints -/
def gLtT : D → D → Option D
  | .tuple xs, .tuple ys => match intsD xs, intsD ys with
    | some ns, some ms => some (.bool (HT.lexLt ns ms))
    | _, _ => none
  | _, _ => none
theorem od_ltT (hu : X.A.units < cLine) : OpD X (compareOp .Lt) gLtT := by
  refine OpD.by (op_ltT hu) fun g O σ env x d e z H v w Q S rv rw q k => ?_
  unfold gLtT at q
  split at q
  · split at q
    · rename_i xs ys ns ms h1 h2
      cases q
      obtain ⟨p, us, rfl, hp, r1⟩ := rv.tup.tupAt
      obtain ⟨p2, us2, rfl, hp2, r2⟩ := rw.tup.tupAt
      rw [ints_ok h1] at r1
      rw [ints_ok h2] at r2
      rw [r1.ints] at hp
      rw [r2.ints] at hp2
      exact ⟨p, p2, ns, ms, rfl, rfl, .of hp, .of hp2, k _ _ (Same.refl _) (.bl _)⟩
    · cases q
  · cases q
def gLt : D → D → Option D := gOr (gI yes2 fun i j => .bool (decide (i < j))) gLtT
theorem od_ltA (hu : X.A.units < cLine) : OpD X (compareOp .Lt) gLt := od_lt.or (od_ltT hu)
def gAdd : D → D → Option D := gOr gAddI (gOr gCatT gCatL)
theorem od_addA : OpD X (binaryOp .Add) gAdd := od_add.or (od_catT.or od_catL)
def gMul : D → D → Option D := gOr gMulI gRepL
theorem od_mulA : OpD X (binaryOp .Mult) gMul := od_mul.or od_repL
def cOr (g1 g2 : List D → Option D) : List D → Option D := fun ds => match g1 ds with
  | some r => some r
  | none => g2 ds
theorem CallD.or {f : Value} {g1 g2 : List D → Option D} (h1 : CallD X f g1) (h2 : CallD X f g2) : CallD X f (cOr g1 g2) := by
  intro pins s σ H vs us Q I rv h
  obtain ⟨g, O, σ', env, x, ds, z, S, rr, e, k⟩ := h
  unfold cOr at e
  split at e
  · rename_i r' q'
    cases e
    exact h1 pins s σ H vs us Q I rv ⟨g, O, σ', env, x, ds, z, S, rr, q', k⟩
  · exact h2 pins s σ H vs us Q I rv ⟨g, O, σ', env, x, ds, z, S, rr, e, k⟩
def gSort : List D → Option D := cOr gSortI gSortT
theorem cd_sortA : CallD X (.builtin "sorted") gSort := cd_sorted.or cd_sortT
/-- x += e, ints -/
def sAug (i : Nat) (f : FE) : FS := fun env x => match env[i]? with
  | some (.va (.int m)) => match f env x with
    | some (.int n, x1) => some (.nx (env.set i (.va (.int (m + n)))), x1)
    | _ => none
  | _ => none
theorem ss_aug {i : Nat} {n : Str} {f : FE} {pos' : Pos} (hN : X.N.Nodup) (hi : X.N[i]? = some n) (hx : Loc X.env.scope n) (he : SE X e f)
    (hf : X.fn n = true ∨ X.env.scope.names.lookup n = some .local := by first | exact .inl rfl | exact .inr rfl | assumption) : SS X (.AugAssign (.Name n pos') .Add e pos) (sAug i f) := by
  refine ⟨PSw (ps_aug hN hi hx he.out ip_add hf) fun Dn σ H h => ?_⟩
  obtain ⟨g, O, env, x, r, x', S, e, k⟩ := h
  unfold sAug at e
  split at e
  · rename_i m e0
    split at e
    · rename_i n x1 e1
      cases e
      obtain ⟨s, e5, q5⟩ := S.at e0
      cases q5 with
      | va r0 =>
        cases r0
        refine ⟨_, e5, g, O, env, x, _, x', S, e1, fun v H1 S1 l1 r1 => ?_⟩
        cases r1
        exact ⟨m, n, rfl, rfl, k O _ _ (S1.setv i (.va (.int _)) fun d z => nomatch z)⟩
    · cases e
  · cases e
def sBk : FS := fun env x => some (.bk env, x)
def sCt : FS := fun env x => some (.ct env, x)
theorem ss_bk : SS X (.Break pos) sBk := ⟨PSw ps_break fun Dn σ H h => by
  obtain ⟨g, O, env, x, r, x', S, e, k⟩ := h
  cases e
  exact k O σ H S⟩
theorem ss_ct : SS X (.Continue pos) sCt := ⟨PSw ps_continue fun Dn σ H h => by
  obtain ⟨g, O, env, x, r, x', S, e, k⟩ := h
  cases e
  exact k O σ H S⟩
def sDrop (f : FE) : FS := fun env x => match f env x with
  | some (_, x1) => some (.nx env, x1)
  | none => none
theorem ss_drop (h : SE X e f) (hs : swapsWith e none pos.line X.env = pure false := by rfl) : SS X (.Expr e pos) (sDrop f) := by
  refine ⟨PSw (ps_expr h.out hs) fun Dn σ H h => ?_⟩
  obtain ⟨g, O, env, x, r, x', S, e, k⟩ := h
  unfold sDrop at e
  split at e
  · rename_i d x1 e1
    cases e
    exact ⟨g, O, env, x, d, x', S, e1, fun v H1 S1 l1 r1 => k O σ H1 S1⟩
  · cases e
/-- a def that is never asked -/
theorem ok_none {P : Program} {w : World} {K : PySem.W.Frag} {mg : Str → Option Value} {base : Heap} {k : Nat} {f : Addr} {fd : FuncData} {ps : List Str} : FnOk P w K mg base CX0 k f fd ps (spF K fun _ => none) :=
  ⟨fun vs H Q E h => (let ⟨_, _, _, _, _, _, _, _, e, _⟩ := h; nomatch e), fun A outer s H args us vs Q E hr he hb hv h => (let ⟨_, _, _, _, _, _, _, _, e, _⟩ := h; nomatch e)⟩
theorem room65 {k : Nat} {A : Around} (r : Room k A) : A.units + 65 < cLine := by
  have := r.un
  omega
end
end RT

namespace RT
open PySem PySem.Spec PyProof.Rows L2
/-! ### comprehensions with two fors -/
/-- a target that makes no slot owned -/
def TgOk (gt : FGt) : Prop := ∀ d env env', gt d env = some env' → ∀ (j : Nat) (w : FSl), env'[j]? = some w → isOwn w = true → env[j]? = some w
def TgsOk (h : FGs) : Prop := ∀ ds env env', h ds env = some env' → ∀ (j : Nat) (w : FSl), env'[j]? = some w → isOwn w = true → env[j]? = some w
theorem tg_name (i : Nat) : TgOk (gtName i) := fun d env env' e j w h h0 => by
  cases e
  rw [List.getElem?_set] at h
  split at h
  · split at h
    · cases h; cases h0
    · cases h
  · exact h
theorem tgs_nil : TgsOk gtNil := fun ds env env' e j w h h0 => by
  cases ds with
  | nil => cases e; exact h
  | cons a l => cases e
theorem tgs_cons {f : FGt} {h : FGs} (a : TgOk f) (b : TgsOk h) : TgsOk (gtCons f h) := fun ds env env' e j w hh h0 => by
  cases ds with
  | nil => cases e
  | cons d l =>
    unfold gtCons at e
    simp only at e
    split at e
    · rename_i e1 q
      exact a d env e1 q j w (b l e1 env' e j w hh h0) h0
    · cases e
theorem tg_tup {n : Nat} {h : FGs} (b : TgsOk h) : TgOk (gtTup n h) := fun d env env' e j w hh h0 => by
  unfold gtTup at e
  split at e
  · split at e
    · exact b _ env env' e j w hh h0
    · cases e
  · cases e
def compL2 (gt : FGt) (t : FT) (f1 : FA) (gt1 : FGt) (t1 : FT) (fe : FE) (vs1 : List Nat) (env : FEn) : List D → FRow → Option (List D × FRow)
  | [], x => some ([], x)
  | d :: ds, x => match gt d env with
    | none => none
    | some e1 => match t e1 x with
      | some (true, x1) => match f1 e1 x1 with
        | some (ds1, x2) => match compL gt1 t1 fe (wipeE e1 vs1) ds1 x2 with
          | some (rs, x3) => match compL2 gt t f1 gt1 t1 fe vs1 env ds x3 with
            | some (rs', x4) => some (rs ++ rs', x4)
            | none => none
          | none => none
        | none => none
      | some (false, x1) => compL2 gt t f1 gt1 t1 fe vs1 env ds x1
      | none => none
def xLc2 (f : FA) (gt : FGt) (t : FT) (f1 : FA) (gt1 : FGt) (t1 : FT) (fe : FE) (vs vs1 : List Nat) : FX := fun env x => match f env x with
  | some (ds, x1) => match compL2 gt t f1 gt1 t1 fe vs1 (wipeE env vs) ds x1 with
    | some (rs, x2) => if rs.length < maxLen then some (.ow (.lst rs), x2) else none
    | none => none
  | none => none
theorem lc2_read {ω : World} {K : PySem.W.Frag} {f f1 : FA} {gt gt1 : FGt} {t t1 : FT} {fe : FE} {vs vs1 : List Nat} {σ : L2.St} {H : Hp} {Q : VK} (gk : TgOk gt) (h : tX ω K (xLc2 f gt t f1 gt1 t1 fe vs vs1) σ H Q) : tLc2 (tI ω K f) (tG ω K vs gt) (tT ω K t) (tI ω K f1) (tG ω K vs1 gt1) (tT ω K t1) (tE ω K fe) vs vs1 σ H Q := by
  obtain ⟨g, O, env, x, sl, x', S, e, k⟩ := h
  unfold xLc2 at e
  split at e
  · rename_i ds x1 e1
    split at e
    · rename_i rs x2 e2
      split at e
      · rename_i hl
        cases e
        refine ⟨g, O, env, x, ds, x1, S, e1, fun J more H1 S1 l1 wk p hp => ?_⟩
        have n1 := S1.newp hp
        have hp0 : Gone H p := Le.gone l1 (.of hp) S1.unadd
        have hne : ∀ (j : Nat) d b, env[j]? = some d → isOwn d = true → σ[j]? = some (some (.ref b)) → b ≠ p := fun j d b h1 h0 h2 => own_ne2 S1 (.of hp) h1 h0 h2
        refine ⟨fun i m H2 => m = ds.length - i ∧ i ≤ ds.length ∧ Le g H H2 ∧ ∃ x acc dn rest, FSt ω K (g.add more) (oAdd O p) σ H2 env x ∧ H2 p = some (.lst acc) ∧ RpA K (oAdd O p) H2 acc dn ∧ compL2 gt t f1 gt1 t1 fe vs1 (wipeE env vs) (ds.drop i) x = some (rest, x') ∧ dn ++ rest = rs,
          ⟨_, rfl, Nat.zero_le _, l1.trans (.of (same_upd hp)), x1, [], [], rs, S1.own hp True.intro, upd_same, .nil, e2, rfl⟩, fun i m H2 hW => ?_⟩
        obtain ⟨rfl, hil, lH, x, acc, dn, rest, S2, hacc, racc, e, er⟩ := hW
        obtain ⟨wgo, wst⟩ := wk _ σ H2 env x i S2
        by_cases hlt : i < ds.length
        · have hd : ds[i]? = some ds[i] := List.getElem?_eq_getElem hlt
          obtain ⟨go, yl⟩ := wgo _ hd
          rw [drop_get hd] at e
          refine .inr ⟨go, fun H2 => i + 1 ≤ ds.length ∧ Le g H H2 ∧ ∃ x acc dn rest, FSt ω K (g.add more) (oAdd O p) σ H2 env x ∧ H2 p = some (.lst acc) ∧ RpA K (oAdd O p) H2 acc dn ∧ compL2 gt t f1 gt1 t1 fe vs1 (wipeE env vs) (ds.drop (i + 1)) x = some (rest, x') ∧ dn ++ rest = rs,
            fun H' hN => ⟨ds.length - (i + 1), by omega, rfl, hN.1, hN.2⟩, fun v H3 hy => ?_⟩
          obtain ⟨sm, rv⟩ := yl v H3 hy
          unfold compL2 at e
          split at e
          · cases e
          · rename_i env1 e3
            have S3 := S2.same sm
            refine ⟨g.add more, oAdd O p, wipeE env vs, x, ds[i], env1, S3.wiped vs, rv, e3, fun σ1 w1 S4 => ⟨w1.trans (wipe_wipe σ vs), ?_⟩⟩
            have hne1 : ∀ (j : Nat) d b, env1[j]? = some d → isOwn d = true → σ1[j]? = some (some (.ref b)) → b ≠ p := fun j d b h1 h0 h2 => by
              have q := gk _ _ _ e3 j d h1 h0
              rcases wipeE_get q with z | ⟨z, z2⟩
              · rw [z] at h0; cases h0
              · refine hne j d b z2 h0 ?_
                have a1 : (wipe σ1 vs)[j]? = σ1[j]? := by rw [wipe_get, if_neg z]
                have a2 : (wipe (wipe σ vs) vs)[j]? = σ[j]? := by rw [wipe_wipe, wipe_get, if_neg z]
                rw [← a2, ← w1, a1]; exact h2
            split at e
            · rename_i xb e4
              split at e
              · rename_i ds1 xc e5
                split at e
                · rename_i rsA xd e6
                  split at e
                  · rename_i rs' xe e7
                    cases e
                    refine ⟨g.add more, oAdd O p, env1, x, _, xb, S4, e4, fun H5 S5 l5 => ?_⟩
                    refine iteT ?_
                    refine ⟨g.add more, oAdd O p, env1, xb, ds1, xc, S5, e5, fun J1 more1 H6 S6 l6 wk1 => ?_⟩
                    have l7 : Le (g.add more) H2 H6 := (Le.of sm).trans (l5.trans l6)
                    have S7 := S2.step l7 S6.tb fun r hr => (S6.row r hr).2.2
                    refine ⟨fun j m H7 => m = ds1.length - j ∧ j ≤ ds1.length ∧ Le g H H7 ∧ ∃ y acc dn1 rest1, FSt ω K (g.add more) (oAdd O p) σ H7 env y ∧ FSt ω K ((g.add more).add more1) (oAdd O p) σ1 H7 env1 y ∧ H7 p = some (.lst acc) ∧ RpA K (oAdd O p) H7 acc dn1 ∧ compL gt1 t1 fe (wipeE env1 vs1) (ds1.drop j) y = some (rest1, xd) ∧ dn1 ++ rest1 = dn ++ rsA,
                      ⟨_, rfl, Nat.zero_le _, fun c u hR e tn => l7 c u hR (lH c u hR e tn) tn, xc, acc, dn, rsA, S7, S6, l7 p _ n1.2 hacc rfl, racc.step S2 l7, e6, rfl⟩, fun j m H7 hW => ?_⟩
                    obtain ⟨rfl, hjl, lH7, y, acc1, dn1, rest1, So, Si, hacc1, racc1, ec, er1⟩ := hW
                    obtain ⟨wgo1, wst1⟩ := wk1 _ σ1 H7 env1 y j Si
                    by_cases hlt1 : j < ds1.length
                    · have hd1 : ds1[j]? = some ds1[j] := List.getElem?_eq_getElem hlt1
                      obtain ⟨go1, yl1⟩ := wgo1 _ hd1
                      rw [drop_get hd1] at ec
                      refine .inr ⟨go1, fun H7 => j + 1 ≤ ds1.length ∧ Le g H H7 ∧ ∃ y acc dn1 rest1, FSt ω K (g.add more) (oAdd O p) σ H7 env y ∧ FSt ω K ((g.add more).add more1) (oAdd O p) σ1 H7 env1 y ∧ H7 p = some (.lst acc) ∧ RpA K (oAdd O p) H7 acc dn1 ∧ compL gt1 t1 fe (wipeE env1 vs1) (ds1.drop (j + 1)) y = some (rest1, xd) ∧ dn1 ++ rest1 = dn ++ rsA,
                        fun H' hN => ⟨ds1.length - (j + 1), by omega, rfl, hN.1, hN.2⟩, fun v1 H8 hy1 => ?_⟩
                      obtain ⟨sm1, rv1⟩ := yl1 v1 H8 hy1
                      unfold compL at ec
                      split at ec
                      · cases ec
                      · rename_i env2 c3
                        have T3 := Si.same sm1
                        refine ⟨(g.add more).add more1, oAdd O p, wipeE env1 vs1, y, ds1[j], env2, T3.wiped vs1, rv1, c3, fun σ2 w2 T4 => ⟨w2.trans (wipe_wipe σ1 vs1), ?_⟩⟩
                        split at ec
                        · rename_i ya c4
                          split at ec
                          · rename_i r yc c5
                            split at ec
                            · rename_i rs2 yd c6
                              cases ec
                              refine ⟨(g.add more).add more1, oAdd O p, env2, y, _, ya, T4, c4, fun H9 T5 k5 => ?_⟩
                              refine iteT ?_
                              refine ⟨(g.add more).add more1, oAdd O p, env2, ya, r, yc, T5, c5, fun z H10 T6 k6 r6 => ?_⟩
                              have k7 : Le ((g.add more).add more1) H7 H10 := (Le.of sm1).trans (k5.trans k6)
                              have So7 := So.step (H' := H10) (x' := yc) k7 T6.tb fun r hr => (T6.row r hr).2.2
                              have Si7 := Si.step k7 T6.tb fun r hr => (T6.row r hr).2.2
                              have hacc' := k7 p _ n1.2 hacc1 rfl
                              have ll : acc1.length < maxLen := by
                                have a1 := racc1.length
                                have a2 := congrArg List.length er1
                                have a3 := congrArg List.length er
                                simp only [List.length_append, List.length_cons] at a2 a3
                                omega
                              have lE : Le g H (upd H10 p (.lst (acc1 ++ [z]))) := by
                                intro c u hR e tn
                                have zz : c ≠ p := fun zz => by rw [zz] at e; exact hp0.no e tn
                                rw [upd_ne zz]
                                exact k7 c u hR (lH7 c u hR e tn) tn
                              refine ⟨acc1, hacc', maxLen_lt ll, hlt1, lE, yc, acc1 ++ [z], dn1 ++ [r], rs2, So7.upd1 hacc' notC_lst (.inr rfl) n1.1 n1.2 True.intro hne, Si7.upd1 hacc' notC_lst (.inr rfl) n1.1 n1.2 True.intro hne1, upd_same, ?_, c6, by rw [List.append_assoc]; exact er1⟩
                              exact ((racc1.step Si k7).app (.cons r6 .nil)).move (keep_own So7 (.inr rfl)) .refl
                            · cases ec
                          · cases ec
                        · rename_i ya c4
                          refine ⟨(g.add more).add more1, oAdd O p, env2, y, _, ya, T4, c4, fun H9 T5 k5 => ?_⟩
                          refine iteF ?_
                          have k7 : Le ((g.add more).add more1) H7 H9 := (Le.of sm1).trans k5
                          have So7 := So.step (H' := H9) (x' := ya) k7 T5.tb fun r hr => (T5.row r hr).2.2
                          have Si7 := Si.step k7 T5.tb fun r hr => (T5.row r hr).2.2
                          exact ⟨hlt1, fun c u hR e tn => k7 c u hR (lH7 c u hR e tn) tn, ya, acc1, dn1, rest1, So7, Si7, k7 p _ n1.2 hacc1 rfl, racc1.step Si k7, ec, er1⟩
                        · cases ec
                    · have hj : j = ds1.length := by omega
                      rw [hj, List.drop_length] at ec
                      unfold compL at ec
                      cases ec
                      rw [List.append_nil] at er1
                      subst er1
                      refine .inl ⟨wst1 hj, hlt, lH7, _, acc1, _, rs', So, hacc1, racc1, e7, by rw [List.append_assoc]; exact er⟩
                  · cases e
                · cases e
              · cases e
            · rename_i xb e4
              refine ⟨g.add more, oAdd O p, env1, x, _, xb, S4, e4, fun H5 S5 l5 => ?_⟩
              refine iteF ?_
              have l7 : Le (g.add more) H2 H5 := (Le.of sm).trans l5
              have S7 := S2.step l7 S5.tb fun r hr => (S5.row r hr).2.2
              exact ⟨hlt, fun c u hR e tn => l7 c u hR (lH c u hR e tn) tn, xb, acc, dn, rest, S7, l7 p _ n1.2 hacc rfl, racc.step S2 l7, e, er⟩
            · cases e
        · have hi : i = ds.length := by omega
          rw [hi, List.drop_length] at e
          unfold compL2 at e
          cases e
          rw [List.append_nil] at er
          subst er
          refine .inl ⟨wst hi, k (oAdd O p) _ H2 S2.unadd lH (fun a z => z.elim .inl fun e => .inr (e ▸ hp0)) (fun a z => .inl z) (.ow (.inr rfl) n1.1 n1.2 ⟨acc, hacc, racc⟩) fun d z => ⟨p, rfl, hp0⟩⟩
      · cases e
    · cases e
  · cases e
section
variable {X : Cx} {pos : Pos}
theorem sx_lc2 {elt tg iter tg1 iter1 : Expr} {ifs ifs1 : List Expr} {scope : Scope} {own : List (Str × Nat)} {vs1 : List Nat} {f f1 : FA} {gt gt1 : FGt} {t t1 : FT} {fe : FE} (hc : X.calm = true) (hN : X.N.Nodup) (hi : SI X tg iter f) (ok : BlkOk X.N X.env.scope scope own) (hv : ∀ i ∈ vs1, i ∈ own.map (·.2)) (gk : TgOk gt)
    (hg : ∀ (s : Shared) (H : Hp) (C : Addr) (cl : List (Str × Addr)) (fp : List Addr), SG (X.blk s H scope (compEnvC scope cl C X.env) fp) tg (own.map (·.2)) gt)
    (ht : ∀ (s : Shared) (H : Hp) (C : Addr) (cl : List (Str × Addr)) (fp : List Addr), STs (X.blk s H scope (compEnvC scope cl C X.env) fp) ifs t)
    (hi1 : ∀ (s : Shared) (H : Hp) (C : Addr) (cl : List (Str × Addr)) (fp : List Addr), SI (X.blk s H scope (compEnvC scope cl C X.env) fp) tg1 iter1 f1)
    (hg1 : ∀ (s : Shared) (H : Hp) (C : Addr) (cl : List (Str × Addr)) (fp : List Addr), SG (X.blk s H scope (compEnvC scope cl C X.env) fp) tg1 vs1 gt1)
    (ht1 : ∀ (s : Shared) (H : Hp) (C : Addr) (cl : List (Str × Addr)) (fp : List Addr), STs (X.blk s H scope (compEnvC scope cl C X.env) fp) ifs1 t1)
    (he : ∀ (s : Shared) (H : Hp) (C : Addr) (cl : List (Str × Addr)) (fp : List Addr), SE (X.blk s H scope (compEnvC scope cl C X.env) fp) elt fe) (hs : ∀ x, foldedSetIterable iter X.env x = pure x := by intro _; rfl) (hs1 : ∀ env x, foldedSetIterable iter1 env x = pure x := by intro _ _; rfl) :
    SX X (.ListComp elt [⟨tg, iter, ifs, 0⟩, ⟨tg1, iter1, ifs1, 0⟩] scope pos) (xLc2 f gt t f1 gt1 t1 fe (own.map (·.2)) vs1) :=
  ⟨PEw (pe_lc2 hc hN hi.out ok hv (fun s H C cl fp => (show PG _ tg (tG X.w X.K (own.map (·.2)) gt) from (hg s H C cl fp).out)) (fun s H C cl fp => (show PTs _ ifs (tT X.w X.K t) from (ht s H C cl fp).out)) (fun s H C cl fp => (show PI _ tg1 iter1 (tI X.w X.K f1) from (hi1 s H C cl fp).out)) (fun s H C cl fp => (show PG _ tg1 (tG X.w X.K vs1 gt1) from (hg1 s H C cl fp).out)) (fun s H C cl fp => (show PTs _ ifs1 (tT X.w X.K t1) from (ht1 s H C cl fp).out)) (fun s H C cl fp => (show PE _ elt (tE X.w X.K fe) from (he s H C cl fp).out)) hs hs1) fun σ H Q h => lc2_read gk h⟩
end
end RT

namespace RT
open PySem PySem.Spec PyProof.Rows L2
section
variable {X : Cx} {a : Expr} {fa : FE} {pos : Pos}
/-! ### reversed(range(n)), list(range(n)) -/
def rvD (n : Nat) : List D := (List.range n).map fun (i : Nat) => D.int ((n : Int) - 1 - (i : Int))
theorem walks_rv {ω : World} {K : PySem.W.Frag} {g : FG} (n : Int) : WalksD ω K (Itc (0 + (((n - 0).toNat : Nat) : Int) - 1) (-1) (n - 0).toNat) g (rvD n.toNat) := fun O σ H env x i S => by
  have hn : (n - 0).toNat = n.toNat := by omega
  have hl : (rvD n.toNat).length = n.toNat := by simp [rvD]
  refine ⟨fun d hd => ?_, fun hi => by rw [hl] at hi; exact Nat.le_of_eq (by omega)⟩
  unfold rvD at hd
  rw [List.getElem?_map] at hd
  by_cases hi : i < n.toNat
  · rw [List.getElem?_range hi] at hd
    cases hd
    refine ⟨by show i < _; omega, fun v H' hy => ?_⟩
    obtain ⟨rfl, rfl⟩ := hy
    refine ⟨Same.refl _, ?_⟩
    have e : (0 + (((n - 0).toNat : Nat) : Int) - 1) + (i : Nat) * (-1) = ((n.toNat : Nat) : Int) - 1 - (i : Int) := by rw [hn]; omega
    rw [e]
    exact .int _
  · rw [List.getElem?_eq_none (by simpa using hi)] at hd
    cases hd
def fRev1 (f : FE) : FA := fun env x => match f env x with
  | some (.int n, x1) => if okRg n then some (rvD n.toNat, x1) else none
  | _ => none
theorem si_rev1 {tg : Expr} {p q ppos : Pos} (hg : Gl X "reversed") (hm : X.mg "reversed" = none) (hg2 : Gl X "range") (hm2 : X.mg "range" = none) (ha : SE X a fa) (na : starEach [a] X.env = (false, eval a X.env) :: starEach [] X.env := by rfl)
    (hs : starEach [.Call (.Name "range" q) [a] [] ppos] X.env = (false, eval (.Call (.Name "range" q) [a] [] ppos) X.env) :: starEach [] X.env := by rfl) : SI X tg (.Call (.Name "reversed" p) [.Call (.Name "range" q) [a] [] ppos] [] pos) (fRev1 fa) := by
  refine ⟨⟨fun pins s σ H R I h2 => ?_⟩⟩
  obtain ⟨g, O, env, x, ds, x', S, e, k⟩ := h2
  unfold fRev1 at e
  split at e
  · rename_i n x1 e1
    split at e
    · rename_i ok
      cases e
      have ok := of_decide_eq_true ok
      refine (pi_revR hg hm (prg_1 hg2 hm2 ha.out na) hs).run pins s σ H R I ⟨g, O, env, x, _, x', S, e1, fun v H1 S1 l1 r1 => ?_⟩
      cases r1
      exact ⟨n, rfl, by omega, by omega, ok.1, ok.2, k _ [] H1 S1 l1 (walks_rv n)⟩
    · cases e
  · cases e
theorem rpa_map {K : PySem.W.Frag} {O : Addr → Prop} {H : Hp} (f : Nat → Int) : ∀ l : List Nat, RpA K O H (l.map fun i => V.int (f i)) (l.map fun i => D.int (f i))
  | [] => .nil
  | _ :: l => .cons (.int _) (rpa_map f l)
def fLrg1 (f : FE) : FE := fun env x => match f env x with
  | some (.int n, x1) => if okRg n && decide (n ≤ 16777216) then some (.list (rgD 0 n.toNat), x1) else none
  | _ => none
theorem se_lrg1 {p q ppos : Pos} (hc : X.calm = true) (hg : Gl X "list") (hm : X.mg "list" = none) (hg2 : Gl X "range") (hm2 : X.mg "range" = none) (ha : SE X a fa) (na : starEach [a] X.env = (false, eval a X.env) :: starEach [] X.env := by rfl)
    (hs : starEach [.Call (.Name "range" q) [a] [] ppos] X.env = (false, eval (.Call (.Name "range" q) [a] [] ppos) X.env) :: starEach [] X.env := by rfl) : SE X (.Call (.Name "list" p) [.Call (.Name "range" q) [a] [] ppos] [] pos) (fLrg1 fa) := by
  refine ⟨PEw (pe_listRg hc hg hm (prg_1 hg2 hm2 ha.out na) hs) fun σ H Q h => ?_⟩
  obtain ⟨g, O, env, x, d, x', S, e, k⟩ := h
  unfold fLrg1 at e
  split at e
  · rename_i n x1 e1
    split at e
    · rename_i ok
      cases e
      obtain ⟨o1, o2⟩ := Bool.and_eq_true_iff.mp ok
      have o1 := of_decide_eq_true o1
      have o2 := of_decide_eq_true o2
      refine ⟨g, O, env, x, _, x', S, e1, fun v H1 S1 l1 r1 => ?_⟩
      cases r1
      refine ⟨n, rfl, ⟨by omega, by omega, o1.1, o1.2, by omega⟩, fun p hp => ?_⟩
      have sm := same_upd (o := .lst (rgV 0 n)) hp
      refine k _ _ (S1.same sm) (l1.trans (.of sm)) (.lst (S1.notO hp) upd_same ?_)
      have e : rgV 0 n = (List.range n.toNat).map fun i => V.int (0 + (i : Nat)) := by unfold rgV; rw [show (n - 0).toNat = n.toNat by omega]
      rw [e]
      exact rpa_map (fun i => 0 + (i : Nat)) _
    · cases e
  · cases e
theorem ss_setLc2 {i : Nat} {y : Str} {py : Pos} {elt tg iter tg1 iter1 : Expr} {ifs ifs1 : List Expr} {scope : Scope} {own : List (Str × Nat)} {vs1 : List Nat} {cpos : Pos} {f f1 : FA} {gt gt1 : FGt} {t t1 : FT} {fe : FE} (hc : X.calm = true) (hN : X.N.Nodup) (hy : X.N[i]? = some y) (hyl : X.env.scope.names.lookup y = some .local)
    (hsw : swapsWith (.ListComp elt [⟨tg, iter, ifs, 0⟩, ⟨tg1, iter1, ifs1, 0⟩] scope cpos) (some (.Name y py)) pos.line X.env = pure true) (hi : SI X tg iter f) (ok : BlkOk X.N X.env.scope scope own) (hv : ∀ i ∈ vs1, i ∈ own.map (·.2)) (gk : TgOk gt)
    (hg : ∀ (s : Shared) (H : Hp) (C : Addr) (cl : List (Str × Addr)) (fp : List Addr), SG (X.blk s H scope (compEnvC scope cl C X.env) fp) tg (own.map (·.2)) gt)
    (ht : ∀ (s : Shared) (H : Hp) (C : Addr) (cl : List (Str × Addr)) (fp : List Addr), STs (X.blk s H scope (compEnvC scope cl C X.env) fp) ifs t)
    (hi1 : ∀ (s : Shared) (H : Hp) (C : Addr) (cl : List (Str × Addr)) (fp : List Addr), SI (X.blk s H scope (compEnvC scope cl C X.env) fp) tg1 iter1 f1)
    (hg1 : ∀ (s : Shared) (H : Hp) (C : Addr) (cl : List (Str × Addr)) (fp : List Addr), SG (X.blk s H scope (compEnvC scope cl C X.env) fp) tg1 vs1 gt1)
    (ht1 : ∀ (s : Shared) (H : Hp) (C : Addr) (cl : List (Str × Addr)) (fp : List Addr), STs (X.blk s H scope (compEnvC scope cl C X.env) fp) ifs1 t1)
    (he : ∀ (s : Shared) (H : Hp) (C : Addr) (cl : List (Str × Addr)) (fp : List Addr), SE (X.blk s H scope (compEnvC scope cl C X.env) fp) elt fe) (hs : ∀ x, foldedSetIterable iter X.env x = pure x := by intro _; rfl) (hs1 : ∀ env x, foldedSetIterable iter1 env x = pure x := by intro _ _; rfl)
    (tr : FX → FX) (htr : tr = id ∨ tr = fun f => xVal (fOfX f)) : SS X (.Assign [.Name y py] (.ListComp elt [⟨tg, iter, ifs, 0⟩, ⟨tg1, iter1, ifs1, 0⟩] scope cpos) pos) (sSet i (tr (xLc2 f gt t f1 gt1 t1 fe (own.map (·.2)) vs1))) := by
  have main : ∀ fx : FX, (∀ σ H Q, tX X.w X.K fx σ H Q → tLc2 (tI X.w X.K f) (tG X.w X.K (own.map (·.2)) gt) (tT X.w X.K t) (tI X.w X.K f1) (tG X.w X.K vs1 gt1) (tT X.w X.K t1) (tE X.w X.K fe) (own.map (·.2)) vs1 σ H Q) → SS X (.Assign [.Name y py] (.ListComp elt [⟨tg, iter, ifs, 0⟩, ⟨tg1, iter1, ifs1, 0⟩] scope cpos) pos) (sSet i fx) := fun fx hfx => by
    refine ⟨PSw (ps_setLc2 hc hN hy hyl hsw hi.out ok hv (fun s H C cl fp => (show PG _ tg (tG X.w X.K (own.map (·.2)) gt) from (hg s H C cl fp).out)) (fun s H C cl fp => (show PTs _ ifs (tT X.w X.K t) from (ht s H C cl fp).out)) (fun s H C cl fp => (show PI _ tg1 iter1 (tI X.w X.K f1) from (hi1 s H C cl fp).out)) (fun s H C cl fp => (show PG _ tg1 (tG X.w X.K vs1 gt1) from (hg1 s H C cl fp).out)) (fun s H C cl fp => (show PTs _ ifs1 (tT X.w X.K t1) from (ht1 s H C cl fp).out)) (fun s H C cl fp => (show PE _ elt (tE X.w X.K fe) from (he s H C cl fp).out)) hs hs1) fun Dn σ H h => ?_⟩
    obtain ⟨g, O, env, x, r, x', S, e, k⟩ := h
    unfold sSet at e
    split at e
    · rename_i sl x1 e1
      cases e
      exact hfx σ H _ ⟨g, O, env, x, sl, x', S, e1, fun O' v H' S' l w sub r nw => k O' _ H' (S'.setv i r fun d z => by
        obtain ⟨p, e2, hp⟩ := nw d z
        exact ⟨p, e2, fun j d' b h1 h2 => own_ne S hp h1 h2⟩)⟩
    · cases e
  rcases htr with rfl | rfl
  · exact main _ fun σ H Q h => lc2_read gk h
  · refine main _ fun σ H Q h => ?_
    obtain ⟨g, O, env, x, sl, x', S, e, k⟩ := h
    change (match fOfX (xLc2 f gt t f1 gt1 t1 fe (own.map (·.2)) vs1) env x with
      | some (d, x1) => some (FSl.va d, x1)
      | none => none) = some (sl, x') at e
    split at e
    · rename_i d x1 e1
      cases e
      unfold fOfX at e1
      split at e1
      · rename_i dd x1 e2
        unfold xLc2 at e2
        split at e2
        · split at e2
          · split at e2
            · cases e2
            · cases e2
          · cases e2
        · cases e2
      · rename_i dd x1 e2
        cases e1
        refine lc2_read gk ⟨g, O, env, x, _, x', S, e2, fun O' v H' S' l w sub r nw => ?_⟩
        obtain ⟨p, rfl, hp⟩ := nw _ rfl
        have np := S.notG hp
        have wd : Wid O' O H' := fun a z => .inl (sub a z)
        cases r with
        | ow p1 q r t =>
          refine k O _ H' (S.shrink S' sub) l .refl (fun _ h => h) (.va ?_) fun d z => by cases z
          cases dd with
          | lst ds => obtain ⟨xs, e, r⟩ := t; exact .lst np e (r.move (fun _ _ _ e _ => e) wd)
          | dk ds => obtain ⟨xs, e, r⟩ := t; exact .dK np (.inl e) (r.move (fun _ _ _ e _ => e) wd)
          | dt ds => obtain ⟨xs, e, r⟩ := t; exact .dT np e (r.move (fun _ _ _ e _ => e) wd)
      · cases e1
    · cases e
end
end RT

namespace RT
open PySem PySem.Spec PyProof.Rows L2
/-! ### dict(xs) of pairs whose keys are tuples -/
def mergeT (kvs more : List (List L2.Key × V)) : List (List L2.Key × V) := more.foldl (fun acc kv => putK acc kv.1 kv.2) kvs
theorem kt_merge {H : Hp} {more : List (List L2.Key × V)} {rs : List (List L2.Key × Addr × Value)} (r : KT H more rs) : ∀ {kvs : List (List L2.Key × V)} {xs : List (List L2.Key × Addr × Value)}, KT H kvs xs → KT H (mergeT kvs more) (storedAllH xs rs) := by
  induction r with
  | nil => intro _ _ q; exact q
  | @cons p q ps qs h t ih =>
    intro kvs xs q0
    have e : KT H (putK kvs p.1 p.2) (storedH xs q.1 q.2.1 q.2.2) := by
      have := KT.put q0 p.1 h.2.1 h.2.2
      rw [← h.1]; exact this
    exact ih e
theorem mergeT_len : ∀ (more kvs : List (List L2.Key × V)), (mergeT kvs more).length ≤ kvs.length + more.length
  | [], kvs => by show kvs.length ≤ kvs.length + 0; omega
  | p :: r, kvs => by
    have a := mergeT_len r (putK kvs p.1 p.2)
    have b := length_putK kvs p.1 p.2
    show (mergeT (putK kvs p.1 p.2) r).length ≤ _
    rw [List.length_cons]; omega
section
variable {X : Cx}
theorem pairsT {pins : List (Addr × Obj)} {σ : L2.St} {H : Hp} {s : Shared} (I : Inv X pins σ H s) : ∀ {ps : List Addr} {kvs : List (List L2.Key × V)}, Paired (fun p kv => ∃ b, SqT X.K H p [.ref b, kv.2] ∧ H b = some (.tup (kv.1.map kV))) ps kvs →
    ∃ prs : List (List L2.Key × Addr × Value), KT H kvs prs ∧ prs.length = ps.length ∧ ∀ (j : Nat) (q : List L2.Key × Addr × Value), prs[j]? = some q → ∃ b : Addr, ps[j]? = some b ∧ IsTup s.heap b #[.ref q.2.1, q.2.2] ∧ H q.2.1 = some (.tup (q.1.map kV))
  | _, _, .nil => ⟨[], .nil, rfl, fun j q e => by simp at e⟩
  | _, _, .cons (a := p) (b := kv) h t => by
    obtain ⟨prs, r, hl, hp⟩ := pairsT I t
    obtain ⟨b, hq, hb⟩ := h
    obtain ⟨its, rv, ht, _⟩ := I.tuple hq
    obtain ⟨u, y, ei, ru, ry⟩ := vals2 rv
    subst ei
    cases ru
    refine ⟨(kv.1, b, y) :: prs, .cons ⟨rfl, hb, ry⟩ r, by rw [List.length_cons, List.length_cons, hl], fun j q e => ?_⟩
    cases j with
    | zero =>
      have e' : (kv.1, b, y) = q := Option.some.inj e
      subst e'
      exact ⟨p, rfl, ht, hb⟩
    | succ j =>
      obtain ⟨c, e1, e2, e3⟩ := hp j q (by simpa using e)
      exact ⟨c, by simpa using e1, e2, e3⟩
theorem cr_dictT (hcalm : X.calm = true) (hu : X.A.units + 4 < cLine) : CallR X (.type "dict") (fun xs H Q => ∃ (a : Addr) (ps : List Addr) (kvs : List (List L2.Key × V)), xs = [.ref a] ∧ SqL X.K H a (ps.map V.ref) ∧ Paired (fun p kv => ∃ b, SqT X.K H p [.ref b, kv.2] ∧ H b = some (.tup (kv.1.map kV))) ps kvs ∧
    ∀ p, H p = none → Q (.ref p) (upd H p (.dT (mergeT [] kvs)))) := by
  intro pins s σ H xs us Q I r q
  obtain ⟨a, ps, kvs, ex, hq, hp, q⟩ := q
  subst ex
  obtain ⟨u, eu, rx⟩ := vals1 r
  subst eu
  cases rx
  obtain ⟨its, rv, pl, hz⟩ := I.list hq
  have ei := refs_at rv
  subst ei
  rw [List.length_map] at hz
  obtain ⟨prs, rel, hl, hpr⟩ := pairsT I hp
  obtain ⟨o, n, ho, hc, hd, hdat⟩ := pl
  have hlt : ∀ b o, s.heap.get? b = some o → b ≠ s.heap.objs.size := fun b o e => Nat.ne_of_lt (Heap.lt_size e)
  refine call_dict_pairsH (knd := tupleKind (mixKind X.prog X.w)) (ps := prs) (PairArg.list a (ps.map Value.ref).toArray (fun j => ps.getD j 0) (prs.map fun q => (Value.ref q.2.1, q.2.2))) (I.ok.hd hcalm) ?_ ⟨⟨o, n, ho, hc, hd, hdat⟩, by simp [hl], fun j k v hj => ?_⟩ ⟨by simp, fun i key v hv => ?_⟩ (fun h' hk x hx => ?_) (by simp [hl]; exact hz) fun h' tk hd' hk => ?_
  · show X.A.in1.in1.units < cLine
    exact Nat.lt_of_le_of_lt (by simp [Around.in1]) (show X.A.units + 4 < cLine from hu)
  · rw [List.getElem?_map] at hj
    obtain ⟨z, hz1, hz2⟩ := Option.map_eq_some_iff.mp hj
    obtain ⟨b, e1, e2, _⟩ := hpr j z hz1
    cases hz2
    have e3 : ps.getD j 0 = b := by simp [List.getD, e1]
    refine ⟨by simp [e1], .inl ?_⟩
    show s.heap.IsTuple (ps.getD j 0) _
    rw [e3]
    exact e2
  · have hv' : (prs.map fun q => (Value.ref q.2.1, q.2.2))[i]? = some (key, v) := hv
    rw [List.getElem?_map] at hv'
    obtain ⟨z, hz1, hz2⟩ := Option.map_eq_some_iff.mp hv'
    cases hz2
    exact ⟨z.1, z.2.1, hz1, rfl⟩
  · obtain ⟨j, hj⟩ := List.getElem?_of_mem hx
    obtain ⟨b, _, _, e3⟩ := hpr j x hj
    obtain ⟨o', items, n', g1, g2, g3, g4⟩ := key_of I.hok e3
    exact ⟨o', items, n', hk _ _ (hlt _ _ g1) (fun z => nomatch z) g1, g2, g3, g4⟩
  · have hm : (s.heap.objs.size == sysModules) = false := beq_eq_false_iff_ne.mpr (Nat.ne_of_gt I.big)
    have hlen : (mergeT [] kvs).length ≤ sizeLine := by
      refine Nat.le_trans (mergeT_len kvs []) ?_
      rw [List.length_nil, Nat.zero_add, Paired.length rel, hl]
      exact hz
    obtain ⟨q', es, ep, hq', h2, h3, h4, _, h5⟩ := hd'
    have fr := I.hok.fresh (Nat.le_refl s.heap.objs.size)
    refine ⟨.ref s.heap.objs.size, upd H s.heap.objs.size (.dT (mergeT [] kvs)), I.laid (t' := tk) (fun b o e => hk b o (fun z => nomatch z) e) (Nat.le_refl _) (show ObjOk X.prog X.w _ _ _ (.dT (mergeT [] kvs)) from ⟨hlen, hm, storedAllH [] prs, (kt_merge rel .nil).keeps fun c ys ec => ?_, q', es, ep, hq', h2, h3, h4, h5⟩), rfl, q _ fr⟩
    rw [upd_ne (fun z => by rw [z, fr] at ec; cases ec)]
    exact ec
/-- pairs (tuple key, value) -/
def pairsD : List D → Option (List (List L2.Key × D × D))
  | [] => some []
  | .tuple [k, v] :: r => match dKeyT k, pairsD r with
    | some ks, some rs => some ((ks, k, v) :: rs)
    | _, _ => none
  | _ => none
def gDictOf : List D → Option D
  | [.list ds] => match pairsD ds with
    | some rs => some (.dictT (rs.foldl (fun acc p => putD dKeyT acc p.2.1 p.1 p.2.2) []))
    | none => none
  | _ => none
theorem pairs_rp {K : PySem.W.Frag} {O : Addr → Prop} {H : Hp} : ∀ {ds : List D} {rs : List (List L2.Key × D × D)} {xs : List V}, pairsD ds = some rs → RpA K O H xs ds →
    ∃ (ps : List Addr) (kvs : List (List L2.Key × V)), xs = ps.map V.ref ∧ Paired (fun p kv => ∃ b, SqT K H p [.ref b, kv.2] ∧ H b = some (.tup (kv.1.map kV))) ps kvs ∧ ∀ acc dacc, RpT K O H acc dacc → RpT K O H (mergeT acc kvs) (rs.foldl (fun acc p => putD dKeyT acc p.2.1 p.1 p.2.2) dacc)
  | [], rs, xs, e, r => by
    cases e
    cases r
    exact ⟨[], [], rfl, .nil, fun acc dacc q => q⟩
  | d :: ds, rs, xs, e, r => by
    cases r with
    | cons a r' =>
      unfold pairsD at e
      split at e
      · rename_i hh; cases hh
      · rename_i k v rr heq
        cases heq
        split at e
        · rename_i ks rs' e1 e2
          cases e
          obtain ⟨ps, kvs, rfl, hp, hm⟩ := pairs_rp e2 r'
          cases a with
          | tup n1 q1 a1 =>
            cases a1 with
            | cons ak a2 =>
              cases a2 with
              | cons av a3 =>
                cases a3
                have ek := dKeyT_ok e1
                subst ek
                cases ak with
                | tup n2 q2 b2 =>
                  have ez := rp_keys b2
                  subst ez
                  refine ⟨_ :: ps, (ks, _) :: kvs, rfl, .cons ⟨_, .of q1, q2⟩ hp, fun acc dacc q => ?_⟩
                  exact hm _ _ (q.put av)
        · cases e
      · cases e
theorem cd_dictT (hc : X.calm = true) (hu : X.A.units + 65 < cLine) : CallD X (.type "dict") gDictOf := by
  refine CallD.by (cr_dictT hc (by omega)) fun g O σ env x ds z H vs Q S r e k => ?_
  unfold gDictOf at e
  split at e
  · split at e
    · rename_i ds' rs e1
      cases e
      cases r with
      | cons r r' =>
        cases r'
        obtain ⟨p, xs, rfl, q, rx⟩ := r.lst
        obtain ⟨ps, kvs, rfl, hp, hm⟩ := pairs_rp e1 rx
        refine ⟨p, ps, kvs, rfl, .of q, hp, fun l hl => ?_⟩
        have sm := same_upd (o := .dT (mergeT [] kvs)) hl
        exact k _ _ sm (.dT (S.notO hl) upd_same ((hm [] [] .nil).move (.of sm) .refl))
    · cases e
  · cases e
end
end RT

namespace RT
open PySem PySem.Spec PyProof.Rows L2
/-! ### sorted, of tuples that are alike, whatever stands in them -/
def sortableB (ds : List D) : Bool := ds.all fun d => match d with
  | .tuple (_ :: _) => true
  | _ => false
def alikeB (ds : List D) : Bool := ds.all fun d => ds.all fun e => PySem.W.alike d.py e.py
def leD (a b : D) : Bool := !PySem.W.dataLt b.py a.py
def gSortD : List D → Option D
  | [.list ds] => if shapedD (.list ds) && sortableB ds && alikeB ds && decide (ds.length ≤ maxLen) then some (.list (ds.mergeSort leD)) else none
  | _ => none
def gSort1 : List D → Option D
  | [.list ds] => if ds.length ≤ 1 then some (.list ds) else none
  | _ => none
theorem pyAll_map : ∀ ds : List D, pyAll ds = ds.map D.py
  | [] => rfl
  | d :: ds => by rw [pyAll, pyAll_map ds]; rfl
theorem each_of {K : PySem.W.Frag} {O : Addr → Prop} {H : Hp} : ∀ {xs : List V} {its : List Value} {ds : List D}, Vals xs its → RpA K O H xs ds → PySem.W.EachIs (fun u d => ∃ v, RelV v u ∧ Rp K O H v d) its ds
  | _, _, _, .nil, .nil => .nil
  | _, _, _, .cons a b, .cons c d => .cons ⟨_, a, c⟩ (each_of b d)
theorem of_each {K : PySem.W.Frag} {O : Addr → Prop} {H : Hp} {its : List Value} {ds : List D} (h : PySem.W.EachIs (fun u d => ∃ v, RelV v u ∧ Rp K O H v d) its ds) : ∃ xs, Vals xs its ∧ RpA K O H xs ds := by
  induction h with
  | nil => exact ⟨[], .nil, .nil⟩
  | cons h _ ih =>
    obtain ⟨v, a, b⟩ := h
    obtain ⟨xs, c, d⟩ := ih
    exact ⟨v :: xs, .cons a c, .cons b d⟩
theorem room66 {k : Nat} {A : Around} (r : Room k A) : A.units + 66 < cLine := by
  have := r.un
  omega
section
variable {X : Cx}
theorem cd_sortD (hu : X.A.units + 66 < cLine) : CallD X (.builtin "sorted") gSortD := by
  intro pins s σ H vs us Q I rv h
  obtain ⟨g, O, σ', env, x, ds, z, S, rr, e, k⟩ := h
  unfold gSortD at e
  split at e
  · rename_i ds0
    split at e
    · rename_i hc
      cases e
      simp only [Bool.and_eq_true, decide_eq_true_eq] at hc
      obtain ⟨⟨⟨hs, ht⟩, ha⟩, hlen⟩ := hc
      cases rr with
      | cons r r' =>
      cases r'
      obtain ⟨p, xs, rfl, hp, rx⟩ := r.lst
      obtain ⟨its, rvv, hl, hz⟩ := I.list (.of hp)
      rw [Vals.ref1 rv]
      have hlay := SeqAt.canLay_of_shaped hs
      have hdep := SeqAt.depth_of_shaped hs
      have hlay' : PyData.canLayAll0 (pyAll ds0) = true := by simpa [D.py, PyData.canLay0] using hlay
      obtain ⟨as, rd⟩ := Dp.readsAll I (pyAll ds0) xs its (rx.dp hlay') rvv
      rw [pyAll_map] at rd
      have hsort : ∀ out : List Value, PySem.W.EachIs (fun u d => ∃ v, RelV v u ∧ Rp X.K O H v d) out (ds0.mergeSort (PySem.W.dataLe false D.py)) → EP X pins σ Q (.ref (s.heap.objs.size + 1)) { s with heap := sortedAll s.heap its (List.toArray out) } := fun out he => by
        obtain ⟨zs, q1, q2⟩ := of_each he
        obtain ⟨ep, he'⟩ := PyProof.Rows.sortedAll_at s.heap its out.toArray
        have hzs : zs.length ≤ sizeLine := by
          rw [q2.length, List.length_mergeSort]; exact maxLen_ok hlen
        have hn : H (s.heap.objs.size + 1) = none := I.hok.fresh (Nat.le_succ _)
        have sm := same_upd (o := .lst zs) hn
        refine ⟨.ref _, upd H (s.heap.objs.size + 1) (.lst zs), I.laid (t' := s.toks) (fun _ _ => PyProof.Rows.sortedAll_old) (Nat.le_succ _) ⟨hzs, out, ep, q1, he'⟩, rfl, k _ _ sm ?_⟩
        exact .lst (S.notO hn) upd_same (q2.move (.of sm) .refl)
      refine PySem.W.sorted_data (enc := D.py) (bs := ds0) (R := fun u d => ∃ v, RelV v u ∧ Rp X.K O H v d) hl.isList (each_of rvv rx) (PySem.W.readsAll_each D.py rd) ?_ ?_ (maxLen_ok hlen) ?_ (fun out _ he => hsort out he)
      · intro d hd d' hd'
        obtain ⟨b, hb, rfl⟩ := List.mem_map.mp hd
        obtain ⟨b', hb', rfl⟩ := List.mem_map.mp hd'
        exact List.all_eq_true.mp (List.all_eq_true.mp ha b hb) b' hb'
      · refine .inl fun d hd => ?_
        obtain ⟨b, hb, rfl⟩ := List.mem_map.mp hd
        have q := List.all_eq_true.mp ht b hb
        cases b with
        | tuple xs =>
          cases xs with
          | nil => simp at q
          | cons x xs => exact ⟨x.py, pyAll xs, by rw [D.py, pyAll]⟩
        | _ => simp at q
      · intro b hb
        have dl : ∀ {ds : List D}, b ∈ ds → b.py.depth ≤ PyData.depthAll (pyAll ds) := fun {ds} => by
          induction ds with
          | nil => intro h; cases h
          | cons d ds ih =>
            intro h
            rw [pyAll, PyData.depthAll]
            rcases List.mem_cons.mp h with rfl | h
            · exact Nat.le_max_left _ _
            · exact Nat.le_trans (ih h) (Nat.le_max_right _ _)
        have h1 := dl hb
        have h2 : PyData.depthAll (pyAll ds0) + 1 ≤ 64 := by simpa [D.py, PyData.depth, Nat.add_comm] using hdep
        omega
    · cases e
  · cases e
theorem cd_sort1 : CallD X (.builtin "sorted") gSort1 := by
  intro pins s σ H vs us Q I rv h
  obtain ⟨g, O, σ', env, x, ds, z, S, rr, e, k⟩ := h
  unfold gSort1 at e
  split at e
  · rename_i ds0
    split at e
    · rename_i hc
      cases e
      cases rr with
      | cons r r' =>
      cases r'
      obtain ⟨p, xs, rfl, hp, rx⟩ := r.lst
      obtain ⟨its, rvv, hl, hz⟩ := I.list (.of hp)
      rw [Vals.ref1 rv]
      have hil : its.length ≤ 1 := by rw [← rvv.length, rx.length]; exact hc
      refine SrtO.sorted_ord (ltv := fun _ _ => false) ⟨fun _ _ h => (nomatch h), fun _ _ _ _ _ => rfl⟩ hl.isList (by rw [← rvv.length]; exact hz) (fun h2 => absurd h2 (by omega)) fun out h1 h2 => ?_
      have eo : out = its := by
        have hlo := h2.perm.length_eq
        match its, out, hil, hlo, h2.perm with
        | [], [], _, _, _ => rfl
        | [a], [b], _, _, p => exact (by rw [List.singleton_perm_singleton.mp p])
        | [], _ :: _, _, h, _ => simp at h
        | [_], [], _, h, _ => simp at h
        | [_], _ :: _ :: _, _, h, _ => simp at h
        | _ :: _ :: _, _, h, _, _ => simp at h
      subst eo
      obtain ⟨ep, he'⟩ := PyProof.Rows.sortedAll_at s.heap out out.toArray
      have hn : H (s.heap.objs.size + 1) = none := I.hok.fresh (Nat.le_succ _)
      have sm := same_upd (o := .lst xs) hn
      refine ⟨.ref _, upd H (s.heap.objs.size + 1) (.lst xs), I.laid (t' := s.toks) (fun _ _ => PyProof.Rows.sortedAll_old) (Nat.le_succ _) ⟨hz, out, ep, rvv, he'⟩, rfl, k _ _ sm ?_⟩
      exact .lst (S.notO hn) upd_same (rx.move (.of sm) .refl)
    · cases e
  · cases e
def gSortX : List D → Option D := cOr gSort (cOr gSort1 gSortD)
theorem cd_sortX (hu : X.A.units + 66 < cLine) : CallD X (.builtin "sorted") gSortX := cd_sortA.or (cd_sort1.or (cd_sortD hu))
end
end RT

namespace RT
open PySem PySem.Spec PyProof.Rows L2
/-! ### for k in d: the dict is locked meanwhile -/
def noOw (env : FEn) : Bool := env.all fun s => match s with
  | .ow _ => false
  | .da _ => false
  | _ => true
def sForD (i : Nat) (gt : FGt) (b : FS) : FS := fun env x => match env[i]? with
  | some (.va (.dict ds)) => if noOw env then forL gt b (ds.map (·.1)) env x else none
  | _ => none
theorem noOw_at {env : FEn} (h : noOw env = true) {i : Nat} {d : OwD} : env[i]? ≠ some (.ow d) := by
  intro e
  have := List.all_eq_true.mp h _ (List.mem_of_getElem? e)
  simp at this
theorem noDa_at {env : FEn} (h : noOw env = true) {i : Nat} {ds : List (D × D)} : env[i]? ≠ some (.da ds) := by
  intro e
  have := List.all_eq_true.mp h _ (List.mem_of_getElem? e)
  simp at this
section
variable {ω : World} {K : PySem.W.Frag} {g : FG} {O O' : Addr → Prop} {σ σ' : L2.St} {H H' : Hp} {env env' : FEn} {x x' : FRow} {d : Addr} {kvs : List (L2.Key × V)} {od : Obj}
def gL (g : FG) (O : Addr → Prop) (H : Hp) : FG := ⟨O, noT H, g.R, [], g.T, g.w⟩
theorem noT_gone {a : Addr} (h : noT H a = none) : Gone H a := fun o e => by
  cases t : isNT o with
  | false => rfl
  | true => rw [noT_of e t] at h; cases h
theorem FSt.new2 (S : FSt ω K g O σ H env x) {a : Addr} (q : Gone H a) : g.H0 a = none := by
  cases e : g.H0 a with
  | none => rfl
  | some o =>
    by_cases r : g.R = some a
    · obtain ⟨_, _, a0, e0, _⟩ := S.row a r
      exact (q.no e0 rfl).elim
    · exact (q.no (S.le a o r e (S.nt0 _ _ e)) (S.nt0 _ _ e)).elim
theorem lock_kq (hd : H d = some (.dK kvs)) : Kq O H (upd H d (.frz od (.dK kvs))) where
  l := fun a xs _ e => by
    by_cases q : a = d
    · subst q; rw [hd] at e; cases e
    · rw [upd_ne q]; exact e
  t := fun a xs _ e => by
    by_cases q : a = d
    · subst q; rw [hd] at e; cases e
    · rw [upd_ne q]; exact e
  d := fun a xs _ e => by
    by_cases q : a = d
    · subst q; rw [hd] at e; cases e
    · rw [upd_ne q]; exact e
  k := fun a xs _ e => by
    by_cases q : a = d
    · subst q
      rcases e with e | ⟨o, e⟩
      · rw [hd] at e; cases e; exact .inr ⟨od, upd_same⟩
      · rw [hd] at e; cases e
    · rcases e with e | ⟨o, e⟩
      · exact .inl (by rw [upd_ne q]; exact e)
      · exact .inr ⟨o, by rw [upd_ne q]; exact e⟩
theorem unlock_kq (hd : H d = some (.frz od (.dK kvs))) : Kq O H (upd H d (.dK kvs)) where
  l := fun a xs _ e => by
    by_cases q : a = d
    · subst q; rw [hd] at e; cases e
    · rw [upd_ne q]; exact e
  t := fun a xs _ e => by
    by_cases q : a = d
    · subst q; rw [hd] at e; cases e
    · rw [upd_ne q]; exact e
  d := fun a xs _ e => by
    by_cases q : a = d
    · subst q; rw [hd] at e; cases e
    · rw [upd_ne q]; exact e
  k := fun a xs _ e => by
    by_cases q : a = d
    · subst q
      rcases e with e | ⟨o, e⟩
      · rw [hd] at e; cases e
      · rw [hd] at e; cases e; exact .inl upd_same
    · rcases e with e | ⟨o, e⟩
      · exact .inl (by rw [upd_ne q]; exact e)
      · exact .inr ⟨o, by rw [upd_ne q]; exact e⟩
theorem row_upd {r : Addr} {o o' : HO} (q : RowAt K H r x) (hr : r ≠ d) (hd : H d = some o) (hn : ∀ p xs, o ≠ .frz p (.lst xs)) : RowAt K (upd H d o') r x := by
  obtain ⟨a0, e, q⟩ := q
  refine ⟨a0, by rw [upd_ne hr]; exact e, ?_⟩
  rcases q with ⟨p, q⟩ | q
  · refine .inl ⟨p, ?_⟩
    by_cases z : a0 = d
    · subst z; rw [hd] at q; cases q; exact absurd rfl (hn _ _)
    · rw [upd_ne z]; exact q
  · exact .inr q
theorem FSt.lock (S : FSt ω K g O σ H env x) (hd : H d = some (.dK kvs)) (hO : ¬ O d) (hn : noOw env = true) : FSt ω K (gL g O (upd H d (.frz od (.dK kvs)))) O σ (upd H d (.frz od (.dK kvs))) env x where
  sub := fun a h => h
  new := fun a h => .inl h
  dom := fun a h => by
    have : a ≠ d := fun z => hO (z ▸ h)
    rw [upd_ne this]; exact S.dom a h
  le := fun a o _ e _ => (noT_some e).1
  tb := tabs_upd S.tb hd rfl notC_dK
  tk := S.tk
  nt0 := fun a o e => (noT_some e).2
  ww := S.ww
  row := fun r hr => by
    obtain ⟨h1, h2, h3⟩ := S.row r hr
    have hr' : r ≠ d := fun z => hO (z ▸ S.sub r h1)
    refine ⟨S.sub r h1, ?_, row_upd h3 hr' hd fun _ _ => by simp⟩
    obtain ⟨a0, e, _⟩ := h3
    show noT (upd H d _) r ≠ none
    rw [noT_of (by rw [upd_ne hr']; exact e) rfl]; simp
  len := S.len
  sl := fun i s e h1 h2 => by
    cases S.sl i s e h1 h2 with
    | no => exact .no _
    | va r => exact .va (r.mv (lock_kq hd))
    | ow a b c d => exact absurd h2 (noOw_at hn)
    | da a b c d => exact absurd h2 (noDa_at hn)
    | fn n e r => exact .fn n (by rw [upd_ne (fun z => by rw [z, hd] at e; unfold LamX.CodeO at e; cases e)]; exact e) fun p hp => (r p hp).mv (lock_kq hd)
    | rw e => exact .rw e
  dis := S.dis
  gh := fun p hp => by cases hp
theorem FSt.unlock (S : FSt ω K g O σ H env x) (hd : H d = some (.dK kvs)) (hO : ¬ O d) (S' : FSt ω K (gL g O (upd H d (.frz od (.dK kvs)))) O' σ' H' env' x') : H' d = some (.frz od (.dK kvs)) ∧ FSt ω K g O' σ' (upd H' d (.dK kvs)) env' x' := by
  have hR : g.R ≠ some d := fun z => hO (S.sub d (S.row d z).1)
  have hl : H' d = some (.frz od (.dK kvs)) := S'.le d _ hR (noT_of upd_same rfl) rfl
  have hO' : ¬ O' d := fun z => by
    rcases S'.new d z with q | q
    · exact hO q
    · rw [show (gL g O (upd H d (.frz od (.dK kvs)))).H0 d = some (.frz od (.dK kvs)) from noT_of upd_same rfl] at q; cases q
  have hle : Le g H (upd H' d (.dK kvs)) := fun a o r e t => by
    by_cases q : a = d
    · subst q; rw [hd] at e; cases e; exact upd_same
    · rw [upd_ne q]
      exact S'.le a o r (noT_of (by rw [upd_ne q]; exact e) t) t
  refine ⟨hl, ?_⟩
  have hnew : ∀ a, O' a → O a ∨ Gone H a := fun a ha => by
    rcases S'.new a ha with q | q
    · exact .inl q
    · right
      by_cases z : a = d
      · subst z; exact absurd ha hO'
      · exact fun o e => noT_gone (show noT (upd H d (.frz od (.dK kvs))) a = none from q) o (by rw [upd_ne z]; exact e)
  exact {
    sub := fun a h => S'.sub a (S.sub a h)
    new := fun a ha => by
      rcases hnew a ha with q | q
      · exact S.new a q
      · exact .inr (S.new2 q)
    tb := tabs_upd S'.tb hl rfl notC_frz
    tk := S.tk
    nt0 := S.nt0
    ww := S.ww
    dom := fun a ha => by
      have : a ≠ d := fun z => hO' (z ▸ ha)
      rw [upd_ne this]; exact S'.dom a ha
    le := S.le.trans hle
    row := fun r hr => by
      obtain ⟨h1, h2, _⟩ := S.row r hr
      have hr' : r ≠ d := fun z => hO (z ▸ S.sub r h1)
      exact ⟨h1, h2, row_upd (S'.row r hr).2.2 hr' hl fun _ _ => by simp⟩
    len := S'.len
    sl := fun i s e h1 h2 => by
      cases S'.sl i s e h1 h2 with
      | no => exact .no _
      | va r => exact .va (r.mv (unlock_kq hl))
      | @ow a w p1 p2 p3 h4 =>
        refine .ow p1 (fun z => p2 (S.sub a z)) p3 ?_
        have ha : a ≠ d := fun z => hO' (z ▸ p1)
        cases w with
        | lst ds => obtain ⟨xs, q, r⟩ := h4; exact ⟨xs, by rw [upd_ne ha]; exact q, r.mv (unlock_kq hl)⟩
        | dk ds => obtain ⟨xs, q, r⟩ := h4; exact ⟨xs, by rw [upd_ne ha]; exact q, r.mv (unlock_kq hl)⟩
        | dt ds => obtain ⟨xs, q, r⟩ := h4; exact ⟨xs, by rw [upd_ne ha]; exact q, r.mv (unlock_kq hl)⟩
      | @da a ds p1 p2 p3 h4 =>
        have ha : a ≠ d := fun z => hO' (z ▸ p1)
        exact .da p1 (fun z => p2 (S.sub a z)) p3 (h4.mv (fun u q _ => by rw [upd_ne ha]; exact q) fun _ _ r => r.mv (unlock_kq hl))
      | fn n e r => exact .fn n (by rw [upd_ne (fun z => by rw [z, hl] at e; unfold LamX.CodeO at e; cases e)]; exact e) fun p hp => (r p hp).mv (unlock_kq hl)
      | rw e => exact .rw e
    dis := S'.dis
    gh := fun p hp => (S.gh p hp).move (S.keep hle) hnew }
end
theorem RpK.keyAt {K : PySem.W.Frag} {O : Addr → Prop} {H : Hp} : ∀ {kvs : List (L2.Key × V)} {ds : List (D × D)}, RpK K O H kvs ds → ds.map (·.1) = kvs.map fun kv => keyD kv.1
  | _, _, .nil => rfl
  | _, _, .cons a b => by rw [List.map_cons, List.map_cons, RpK.keyAt b]
theorem rp_key {K : PySem.W.Frag} {O : Addr → Prop} {H : Hp} (k : L2.Key) : Rp K O H (kV k) (keyD k) := by
  cases k with
  | inl i => exact .int i
  | inr s => exact .str s
section
variable {X : Cx} {pos pos1 : Pos}
/-- the loop over the keys of a locked dict -/
theorem ps_forK {tg : Expr} {body : List Stmt} {n : Str} {vs : List Nat} {gt : FGt} {fb : FS} (i : Nat) (hp : PassesOwn (model X.prog X.w) X.A X.env X.xe) (hc : X.calm = true)
    (hN : X.N[i]? = some n) (hv : Vis X.env.scope n) (hd : (n == ("__debug__" : Str)) = false) (hcd : (n == ("__classdict__" : Str)) = false)
    (hg : SG X tg vs gt) (hb : SSs X body fb) (hs : ∀ x, foldedSetIterable (.Name n pos1) X.env x = pure x) :
    PS X (.For tg (.Name n pos1) body [] pos) (fun Dn σ H => ∃ g O env x r x' a od kvs ds, FSt X.w X.K g O σ H env x ∧ env[i]? = some (.va (.dict ds)) ∧ σ[i]? = some (some (.ref a)) ∧ g.H0 a = some (.frz od (.dK kvs)) ∧ RpK X.K O H kvs ds ∧ g.R ≠ some a ∧
      forL gt fb (ds.map (·.1)) env x = some (r, x') ∧ match r with
  | .nx env' => ∀ O' σ' H', FSt X.w X.K g O' σ' H' env' x' → Dn.nx σ' H'
  | .bk env' => ∀ O' σ' H', FSt X.w X.K g O' σ' H' env' x' → Dn.bk σ' H'
  | .ct env' => ∀ O' σ' H', FSt X.w X.K g O' σ' H' env' x' → Dn.ct σ' H'
  | .rt d => ∀ O' σ' H' v env', FSt X.w X.K g O' σ' H' env' x' → Rp X.K O' H' v d → Dn.rt v H') := by
  refine PSw (ps_for hp hc (pi_keys (pe_var hN hv hd hcd)) hg.out hb.out hs) fun Dn σ H h => ?_
  obtain ⟨g, O, env, x, r, x', a, od, kvs, ds, S, ei, es, ha, hk, hR, e, k⟩ := h
  refine ⟨_, es, a, od, rfl, .inl ⟨kvs, S.le a _ hR ha rfl, ?_⟩⟩
  have hke := hk.keyAt
  have hlen : (ds.map (·.1)).length = kvs.length := by rw [hke, List.length_map]
  refine ⟨fun i m σ2 H2 => m = (ds.map (·.1)).length - i ∧ i ≤ (ds.map (·.1)).length ∧ ∃ O env x, FSt X.w X.K g O σ2 H2 env x ∧ forL gt fb ((ds.map (·.1)).drop i) env x = some (r, x'), ⟨_, rfl, Nat.zero_le _, O, env, x, S, e⟩, fun i m σ2 H2 hW => ?_⟩
  obtain ⟨rfl, hil, O2, env2, x2, S2, e⟩ := hW
  have ha2 : H2 a = some (.frz od (.dK kvs)) := S2.le a _ hR ha rfl
  by_cases hlt : i < (ds.map (·.1)).length
  · rw [drop_get (List.getElem?_eq_getElem hlt)] at e
    refine .inr ⟨⟨ha2, by rw [← hlen]; exact hlt⟩, fun σ' H' => i + 1 ≤ (ds.map (·.1)).length ∧ ∃ O env x, FSt X.w X.K g O σ' H' env x ∧ forL gt fb ((ds.map (·.1)).drop (i + 1)) env x = some (r, x'), fun σ' H' hN => ⟨(ds.map (·.1)).length - (i + 1), by omega, rfl, hN.1, hN.2⟩, fun v H' hy => ?_⟩
    obtain ⟨rfl, kk, vv, hkv, rfl⟩ := hy
    have hdk : (ds.map (·.1))[i] = keyD kk := by
      have q : (ds.map (·.1))[i]? = some (keyD kk) := by rw [hke, List.getElem?_map, hkv]; rfl
      rw [List.getElem?_eq_getElem hlt] at q; exact Option.some.inj q
    rw [hdk] at e
    unfold forL at e
    split at e
    · cases e
    · rename_i env1 e2
      refine ⟨g, O2, env2, x2, keyD kk, env1, S2, rp_key kk, e2, fun σ1 _ S3 => ?_⟩
      split at e
      · rename_i env3 x3 e3
        exact ⟨g, O2, env1, x2, _, x3, S3, e3, fun O' σ' H' S' => ⟨hlt, O', env3, x3, S', e⟩⟩
      · rename_i env3 x3 e3
        exact ⟨g, O2, env1, x2, _, x3, S3, e3, fun O' σ' H' S' => ⟨hlt, O', env3, x3, S', e⟩⟩
      · rename_i env3 x3 e3
        cases e
        exact ⟨g, O2, env1, x2, _, x', S3, e3, fun O' σ' H' S' => k O' σ' H' S'⟩
      · rename_i d x3 e3
        cases e
        exact ⟨g, O2, env1, x2, _, x', S3, e3, fun O' σ' H' v env' S' r' => k O' σ' H' v env' S' r'⟩
      · cases e
  · have hi : i = (ds.map (·.1)).length := by omega
    rw [hi, List.drop_length] at e
    unfold forL at e
    cases e
    exact .inl ⟨⟨ha2, by omega⟩, k O2 σ2 H2 S2⟩
theorem PS.orr {X : Cx} {st : Stmt} {t u : TS} (h : PS X st t) (h' : PS X st u) : PS X st (fun Dn σ H => t Dn σ H ∨ u Dn σ H) := ⟨fun pins s σ H D I z => z.elim (h.run pins s σ H D I) (h'.run pins s σ H D I)⟩
theorem ss_forD {tg : Expr} {body : List Stmt} {n : Str} {vs : List Nat} {gt : FGt} {fb : FS} (i : Nat) (hp : PassesOwn (model X.prog X.w) X.A X.env X.xe) (hc : X.calm = true)
    (hg : SG X tg vs gt) (hb : SSs X body fb) (hN : X.N[i]? = some n := by rfl) (hv : Vis X.env.scope n := by first | exact Or.inl rfl | exact Or.inr (Or.inl rfl) | exact Or.inr (Or.inr rfl)) (hd : (n == ("__debug__" : Str)) = false := by decide) (hcd : (n == ("__classdict__" : Str)) = false := by decide)
    (hs : ∀ x, foldedSetIterable (.Name n pos1) X.env x = pure x := by intro _; rfl) : SS X (.For tg (.Name n pos1) body [] pos) (sForD i gt fb) := by
  have base := ps_forK (pos := pos) (pos1 := pos1) i hp hc hN hv hd hcd hg hb hs
  refine ⟨PSw (PS.orr (ps_lock base) base) fun Dn σ H h => ?_⟩
  obtain ⟨g, O, env, x, r, x', S, e, k⟩ := h
  unfold sForD at e
  split at e
  · rename_i ds ei
    split at e
    · rename_i hn
      obtain ⟨s, es, sl⟩ := S.at ei
      cases sl with
      | va rp =>
        cases rp with
        | @dK a kvs _ hO hrd hk =>
          have hR : g.R ≠ some a := fun z => hO (S.sub a (S.row a z).1)
          rcases hrd with hd | ⟨od, hd⟩
          · refine .inl ⟨a, _, hd, True.intro, fun od => ?_⟩
            refine ⟨gL g O _, O, env, x, r, x', a, od, kvs, ds, S.lock hd hO hn, ei, es, noT_of upd_same rfl, hk.mv (lock_kq hd), hR, e, ?_⟩
            cases r with
            | nx env' => exact fun O' σ' H' S' => ⟨(S.unlock hd hO S').1, k _ _ _ (S.unlock hd hO S').2⟩
            | bk env' => exact fun O' σ' H' S' => ⟨(S.unlock hd hO S').1, k _ _ _ (S.unlock hd hO S').2⟩
            | ct env' => exact fun O' σ' H' S' => ⟨(S.unlock hd hO S').1, k _ _ _ (S.unlock hd hO S').2⟩
            | rt d => exact fun O' σ' H' v env' S' rv => ⟨(S.unlock hd hO S').1, k _ _ _ _ _ (S.unlock hd hO S').2 (rv.mv (unlock_kq (S.unlock hd hO S').1))⟩
          · right
            have hle : ∀ {O' : Addr → Prop} {σ' : L2.St} {H' : Hp} {env' : FEn}, FSt X.w X.K ⟨O, noT H, g.R, [], g.T, g.w⟩ O' σ' H' env' x' → FSt X.w X.K g O' σ' H' env' x' := fun {O' σ' H' env'} S' => {
              sub := fun a h => S'.sub a (S.sub a h)
              new := fun a ha => by
                rcases S'.new a ha with q | q
                · exact S.new a q
                · exact .inr (S.new2 (noT_gone (show noT H a = none from q)))
              tb := S'.tb
              tk := S.tk
              nt0 := S.nt0
              ww := S.ww
              dom := S'.dom
              le := fun a o r e t => S'.le a o r (noT_of (S.le a o r e t) t) t
              row := fun r hr => ⟨(S.row r hr).1, (S.row r hr).2.1, (S'.row r hr).2.2⟩
              len := S'.len
              sl := fun i s e h1 h2 => by
                cases S'.sl i s e h1 h2 with
                | no => exact .no _
                | va r => exact .va r
                | ow p1 p2 p3 p4 => exact .ow p1 (fun z => p2 (S.sub _ z)) p3 p4
                | da p1 p2 p3 p4 => exact .da p1 (fun z => p2 (S.sub _ z)) p3 p4
                | fn n e r => exact .fn n e r
                | rw e => exact .rw e
              dis := S'.dis
              gh := fun p hp => (S.gh p hp).move (S.keep fun a o r e t => S'.le a o r (noT_of e t) t) fun a ha => (S'.new a ha).elim .inl fun q => .inr (noT_gone (show noT H a = none from q)) }
            have S1 : FSt X.w X.K ⟨O, noT H, g.R, [], g.T, g.w⟩ O σ H env x := {
              sub := fun a h => h
              new := fun a h => .inl h
              dom := S.dom
              le := fun a o _ e _ => (noT_some e).1
              tb := S.tb
              tk := S.tk
              nt0 := fun a o e => (noT_some e).2
              ww := S.ww
              row := fun r hr => ⟨S.sub r (S.row r hr).1, by obtain ⟨a0, e, _⟩ := (S.row r hr).2.2; rw [show (⟨O, noT H, g.R, [], g.T, g.w⟩ : FG).H0 r = _ from noT_of e rfl]; simp, (S.row r hr).2.2⟩
              len := S.len
              sl := fun i s e h1 h2 => by
                cases S.sl i s e h1 h2 with
                | no => exact .no _
                | va r => exact .va r
                | ow a b c d => exact absurd h2 (noOw_at hn)
                | da a b c d => exact absurd h2 (noDa_at hn)
                | fn n e r => exact .fn n e r
                | rw e => exact .rw e
              dis := S.dis
              gh := fun p hp => by cases hp }
            refine ⟨⟨O, noT H, g.R, [], g.T, g.w⟩, O, env, x, r, x', a, od, kvs, ds, S1, ei, es, noT_of hd rfl, hk, hR, e, ?_⟩
            cases r with
            | nx env' => exact fun O' σ' H' S' => k _ _ _ (hle S')
            | bk env' => exact fun O' σ' H' S' => k _ _ _ (hle S')
            | ct env' => exact fun O' σ' H' S' => k _ _ _ (hle S')
            | rt d => exact fun O' σ' H' v env' S' rv => k _ _ _ _ _ (hle S') rv
    · cases e
  · cases e
end
end RT

namespace RT
open PySem PySem.Spec PyProof.Rows L2 PpSet
/-! ### {elt for .. in .. for .. in ..}, the elements ints -/
section
variable {prog : Program} {w : World} {A : Around} {R : Result → Shared → Prop} {s : Shared} {el ta ia tb ib : Expr} {ca cb : List Expr} {sc : Scope} {ps : Pos} {J M : Value} {env : Env}
abbrev sc2 (el ta ia tb ib : Expr) (ca cb : List Expr) (sc : Scope) (ps : Pos) : Expr := .SetComp el [⟨ta, ia, ca, 0⟩, ⟨tb, ib, cb, 0⟩] sc ps
theorem turnS_a (el ta ia tb ib : Expr) (ca cb : List Expr) (sc : Scope) (ps : Pos) (J M : Value) (env : Env) :
    compTurn (sc2 el ta ia tb ib ca cb sc ps) 0 J M env = (do
      standAt ia.pos
      match ← pyNext J with
      | none => pure (.done .next)
      | some x =>
        letOwnedTupleGo ta J x
        assign ta env x
        let mut go := true
        for c in ca do
          if go then go ← isTrue c env (eval c env)
        if go then
          let y ← eval ib env
          standAt ib.pos
          let y ← foldedSetIterable ib env y
          let _ ← runOwn (.compStart (sc2 el ta ia tb ib ca cb sc ps) 1 (← holding [y] (pyIter y)) M env) env
        again (.compLoop (sc2 el ta ia tb ib ca cb sc ps) 0 J M env)) := by rfl
theorem turnS_b (el ta ia tb ib : Expr) (ca cb : List Expr) (sc : Scope) (ps : Pos) (J M : Value) (env : Env) :
    compTurn (sc2 el ta ia tb ib ca cb sc ps) 1 J M env = (do
      standAt ib.pos
      match ← pyNext J with
      | none => pure (.done .next)
      | some x =>
        letOwnedTupleGo tb J x
        assign tb env x
        let mut go := true
        for c in cb do
          if go then go ← isTrue c env (eval c env)
        if go then
          (do let y ← eval el env; standAt el.pos; let _ ← call (.builtin "set.add") [M, y])
        again (.compLoop (sc2 el ta ia tb ib ca cb sc ps) 1 J M env)) := by rfl
/-- the tests of a clause -/
abbrev asks (cs : List Expr) (env : Env) : Sem Bool := forIn cs true fun c r => if r = true then do let ok ← isTrue c env (eval c env); pure (ForInStep.yield ok) else pure (ForInStep.yield r)
/-- where a raise in the block goes -/
abbrev nb (prog : Program) (w : World) (A : Around) (R : Result → Shared → Prop) (env : Env) : Value → Shared → Prop := notedBy (model prog w) A env fun x t => R (.error x) t
theorem loopS_a (fold : ∀ x, foldedSetIterable ib env x = pure x) (G : Nat → Shared → Prop)
    (turn : ∀ n s, G n s → wpAny (model prog w) A (pyNext J) (fun r t1 => match r with
      | none => R (.ok .next) t1
      | some x => wpAny (model prog w) A (letOwnedTupleGo ta J x) (fun _ t2 => wpAny (model prog w) A (assign ta env x) (fun _ t3 => wpAny (model prog w) A (asks ca env) (fun go t4 =>
          if go = true then wpAny (model prog w) A (eval ib env) (fun y t5 => wpAny (model prog w) A (pyIter y) (fun K t6 =>
              codeAny (model prog w) A (.compStart (sc2 el ta ia tb ib ca cb sc ps) 1 K M env) (fun r t7 => match r with
                | .ok _ => ∃ m, m < n ∧ G m t7
                | .error _ => False) t6) (nb prog w A R env) t5) (nb prog w A R env) t4
          else ∃ m, m < n ∧ G m t4) (nb prog w A R env) t3) (nb prog w A R env) t2) (nb prog w A R env) t1) (nb prog w A R env) s)
    (n : Nat) (h : G n s) : codeAny (model prog w) A (.compLoop (sc2 el ta ia tb ib ca cb sc ps) 0 J M env) R s := by
  refine codeAny_loop rfl G (fun n s hG => ?_) n h
  show wpAny _ A ((compTurn (sc2 el ta ia tb ib ca cb sc ps) 0 J M env).onRaise (fun x => do noteFrame x env; theTreesLotGoes x)) _ _ s
  refine wpAny_noted ?_
  rw [turnS_a]
  refine wpAny_bind (wpAny_standAt (wpAny_bind (wpAny_mono (turn n s hG) (fun r t1 k1 => ?_) fun _ _ z => z)))
  cases r with
  | none => exact wpAny_pure k1
  | some x =>
    refine wpAny_bind (wpAny_mono k1 (fun _ t2 k2 => wpAny_bind (wpAny_mono k2 (fun _ t3 k3 => wpAny_bind (wpAny_mono k3 (fun go t4 k4 => ?_) fun _ _ z => z)) fun _ _ z => z)) fun _ _ z => z)
    cases go with
    | false => exact wpAny_pure ⟨rfl, k4⟩
    | true =>
      refine wpAny_bind (wpAny_mono k4 (fun y t5 k5 => wpAny_bind (wpAny_standAt (wpAny_bind (wpAny_of_eq (fold y) (wpAny_bind (wpAny_holding (wpAny_mono k5 (fun K t6 k6 => ?_) fun _ _ z => z))))))) fun _ _ z => z)
      refine wpAny_bind (wpAny_runOwn ?_)
      rw [Around.mark_none]
      refine codeAny_mono k6 fun r t7 k7 => ?_
      cases r with
      | error x => exact k7.elim
      | ok f => first | exact wpAny_pure ⟨rfl, k7⟩ | exact wpAny_bind (wpAny_pure (wpAny_pure ⟨rfl, k7⟩))
theorem loopS_b (G : Nat → Shared → Prop)
    (turn : ∀ n s, G n s → wpAny (model prog w) A (pyNext J) (fun r t1 => match r with
      | none => R (.ok .next) t1
      | some x => wpAny (model prog w) A (letOwnedTupleGo tb J x) (fun _ t2 => wpAny (model prog w) A (assign tb env x) (fun _ t3 => wpAny (model prog w) A (asks cb env) (fun go t4 =>
          if go = true then wpAny (model prog w) A (eval el env) (fun y t5 =>
              wpAny (model prog w) A (call (.builtin "set.add") [M, y]) (fun _ t6 => ∃ m, m < n ∧ G m t6) (nb prog w A R env) t5) (nb prog w A R env) t4
          else ∃ m, m < n ∧ G m t4) (nb prog w A R env) t3) (nb prog w A R env) t2) (nb prog w A R env) t1) (nb prog w A R env) s)
    (n : Nat) (h : G n s) : codeAny (model prog w) A (.compLoop (sc2 el ta ia tb ib ca cb sc ps) 1 J M env) R s := by
  refine codeAny_loop rfl G (fun n s hG => ?_) n h
  show wpAny _ A ((compTurn (sc2 el ta ia tb ib ca cb sc ps) 1 J M env).onRaise (fun x => do noteFrame x env; theTreesLotGoes x)) _ _ s
  refine wpAny_noted ?_
  rw [turnS_b]
  refine wpAny_bind (wpAny_standAt (wpAny_bind (wpAny_mono (turn n s hG) (fun r t1 k1 => ?_) fun _ _ z => z)))
  cases r with
  | none => exact wpAny_pure k1
  | some x =>
    refine wpAny_bind (wpAny_mono k1 (fun _ t2 k2 => wpAny_bind (wpAny_mono k2 (fun _ t3 k3 => wpAny_bind (wpAny_mono k3 (fun go t4 k4 => ?_) fun _ _ z => z)) fun _ _ z => z)) fun _ _ z => z)
    cases go with
    | false => exact wpAny_pure ⟨rfl, k4⟩
    | true => exact wpAny_bind (wpAny_bind (wpAny_mono k4 (fun y t5 k5 => wpAny_bind (wpAny_standAt (wpAny_bind (wpAny_mono k5 (fun _ t6 k6 => wpAny_pure (wpAny_pure ⟨rfl, k6⟩)) fun _ _ z => z)))) fun _ _ z => z))
theorem startS_b (h0 : codeAny (model prog w) A (.compLoop (sc2 el ta ia tb ib ca cb sc ps) 1 J M env) R s)
    (h : wpAny (model prog w) A (pyIter J) (fun K t => codeAny (model prog w) A (.compLoop (sc2 el ta ia tb ib ca cb sc ps) 1 K M env) R t) (nb prog w A R env) s) :
    codeAny (model prog w) A (.compStart (sc2 el ta ia tb ib ca cb sc ps) 1 J M env) R s := by
  refine codeAny_of_tree ?_
  show wpAny _ _ ((compStart (sc2 el ta ia tb ib ca cb sc ps) 1 J M env).onRaise (fun x => do noteFrame x env; standAt theWindowsPlace)) _ _ s
  refine wpAny_notedAt ?_
  unfold compStart
  show wpAny _ _ (ask >>= _) _ _ s
  refine wpAny_bind (wpAny_askSetting (wpAny_ite ?_))
  split
  · first | exact wpAny_bind (wpAny_pure (wpAny_pure ⟨rfl, h0⟩)) | exact wpAny_pure ⟨rfl, h0⟩
  · first
      | exact wpAny_bind (wpAny_rule (wpAny_bind (wpAny_standAt (wpAny_bind (wpAny_mono h (fun K t k => wpAny_pure ⟨rfl, k⟩) fun _ _ z => z)))))
      | (refine wpAny_bind (wpAny_rule ?_); show wpAny _ _ (standAt ib.pos >>= _) _ _ s; exact wpAny_bind (wpAny_standAt (wpAny_bind (wpAny_mono h (fun K t k => wpAny_pure ⟨rfl, k⟩) fun _ _ z => z))))
end
section
variable {X : Cx} {el ta ia tb ib : Expr} {ca cb : List Expr} {scope : Scope} {own : List (Str × Nat)} {vb : List Nat} {pos : Pos} {wa wb : TI} {ga gb : TG} {qa qb : TT} {te : TE}
/-- behind the first clause the second one's own loop, from which Nx is reached -/
def tSi2 (w : World) (wa : TI) (ga : TG) (qa : TT) (wb : TI) (gb : TG) (qb : TT) (te : TE) (vs vb : List Nat) : TE := fun σ H Q => wa σ H fun J H1 => ∀ p, H1 p = none →
  ∃ W : Nat → Nat → Hp → Prop, (∃ m, W 0 m (upd H1 p (SetIO w p (fun _ => false) 0))) ∧ ∀ i m H, W i m H → (J.stop i H ∧ Q (.ref p) H) ∨
    (J.go i H ∧ ∃ Nx : Hp → Prop, (∀ H', Nx H' → ∃ m', m' < m ∧ W (i + 1) m' H') ∧ ∀ x H', J.yld i H x H' → ga x (wipe σ vs) H' fun σ2 H2 => wipe σ2 vs = wipe σ vs ∧ qa σ2 H2 fun b H3 =>
      if b = true then wb σ2 H3 fun L H4 => ∃ U : Nat → Nat → Hp → Prop, (∃ m, U 0 m H4) ∧ ∀ j k H, U j k H → (L.stop j H ∧ Nx H) ∨
        (L.go j H ∧ ∃ Ny : Hp → Prop, (∀ H', Ny H' → ∃ k', k' < k ∧ U (j + 1) k' H') ∧ ∀ x H', L.yld j H x H' → gb x (wipe σ2 vb) H' fun σ3 H5 => wipe σ3 vb = wipe σ2 vb ∧ qb σ3 H5 fun b H6 =>
          if b = true then te σ3 H6 fun y H7 => ∃ (k : Int) (M : Int → Bool) (n : Nat), y = .int k ∧ H7 p = some (SetIO w p M n) ∧ n + 1 < scanBound ∧ Ny (upd H7 p (SetIO w p (fun j => M j || decide (j = k)) (if M k = true then n else n + 1))) else Ny H6)
      else Nx H3)
theorem pe_si2 (hc : X.calm = true) (hN : X.N.Nodup) (hi : PI X ta ia wa) (ok : BlkOk X.N X.env.scope scope own) (hv : ∀ i ∈ vb, i ∈ own.map (·.2))
    (hg : ∀ (s : Shared) (H : Hp) (C : Addr) (cl : List (Str × Addr)) (fp : List Addr), PG (X.blk s H scope (compEnvC scope cl C X.env) fp) ta ga)
    (ht : ∀ (s : Shared) (H : Hp) (C : Addr) (cl : List (Str × Addr)) (fp : List Addr), PTs (X.blk s H scope (compEnvC scope cl C X.env) fp) ca qa)
    (hib : ∀ (s : Shared) (H : Hp) (C : Addr) (cl : List (Str × Addr)) (fp : List Addr), PI (X.blk s H scope (compEnvC scope cl C X.env) fp) tb ib wb)
    (hgb : ∀ (s : Shared) (H : Hp) (C : Addr) (cl : List (Str × Addr)) (fp : List Addr), PG (X.blk s H scope (compEnvC scope cl C X.env) fp) tb gb)
    (htb : ∀ (s : Shared) (H : Hp) (C : Addr) (cl : List (Str × Addr)) (fp : List Addr), PTs (X.blk s H scope (compEnvC scope cl C X.env) fp) cb qb)
    (he : ∀ (s : Shared) (H : Hp) (C : Addr) (cl : List (Str × Addr)) (fp : List Addr), PE (X.blk s H scope (compEnvC scope cl C X.env) fp) el te)
    (hs : ∀ x, foldedSetIterable ia X.env x = pure x := by intro _; rfl) (hsb : ∀ env x, foldedSetIterable ib env x = pure x := by intro _ _; rfl) : PE X (sc2 el ta ia tb ib ca cb scope pos) (tSi2 X.w wa ga qa wb gb qb te (own.map (·.2)) vb) := by
  refine ⟨fun pins s σ H Q I h => ?_⟩
  show wpAny _ _ (eval (.SetComp el [⟨ta, ia, ca, 0⟩, ⟨tb, ib, cb, 0⟩] scope pos) X.env) _ _ s
  rw [eval_SetComp]
  have clo : ∀ y ∈ scope.names, y.2 = .free → ∃ c, X.env.cells.lookup y.1 = some c := fun y hy e => (ok.free y hy e).elim (fun k => I.ok.has _ (.inl k)) fun k => I.ok.has _ (.inr k)
  refine wpAny_comprehension_free (use := none) rfl hs (closure_ok clo) ok.kind (fun y hy e => by rw [ok.uniq y hy, e]) (thn (hi.run pins s σ H _ I h) fun xv s1 hx => thn hx fun itv s2 h2 => ?_)
  obtain ⟨it, fp, tn, J, H2, rfl, I2, T, st2, f2, q⟩ := h2
  refine newSet_ok (newEnv_comp ?_)
  let eo : Obj := { cls := .type "set", dict := none, data := .set #[] 0 (.fresh 0 0 (!X.w.params.followText "set-order")) }
  let p : Addr := s2.heap.objs.size
  have hpn : H2 p = none := I2.hok.fresh (Nat.le_refl _)
  obtain ⟨W, ⟨m0, w0⟩, turn⟩ := q p hpn
  let s3 : Shared := { s2 with heap := s2.heap.push eo }
  let H3 : Hp := upd H2 p (SetIO X.w p (fun _ => false) 0)
  have I3 : L2.Inv X pins σ H3 s3 := I2.laid (t' := s2.toks) (fun b o e => Heap.get?_push_of_some _ e) (Nat.le_refl _) (setIO_ok (setR_fresh X.w))
  have low : ∀ b ∈ fp, b < s2.heap.objs.size := fun b hb => let ⟨_, e, _⟩ := T.obj _ _ st2 b hb; Heap.lt_size e
  have f3 : ∀ b ∈ fp, FpOk X pins H3 b ∧ b < s3.heap.objs.size := fun b hb => by
    have hlt := low b hb
    refine ⟨⟨?_, (f2 b hb).2⟩, by show b < (s2.heap.push eo).objs.size; rw [Heap.size_push]; exact Nat.lt_succ_of_lt hlt⟩
    show upd H2 p _ b = none
    rw [upd_ne (show b ≠ p from Nat.ne_of_lt hlt)]
    exact (f2 b hb).1
  have st3 : tn 0 s3.heap := T.keep _ _ _ st2 fun b _ o e => Heap.get?_push_of_some _ e
  have I4 := block_start I3 ok hN f3
  have pg := hg s3 H3 s3.heap.objs.size (cellsFrom (s3.heap.objs.size + 1) scope.names (cloFrom X.env.cells scope.names [])) fp
  have pt := ht s3 H3 s3.heap.objs.size (cellsFrom (s3.heap.objs.size + 1) scope.names (cloFrom X.env.cells scope.names [])) fp
  have pe := he s3 H3 s3.heap.objs.size (cellsFrom (s3.heap.objs.size + 1) scope.names (cloFrom X.env.cells scope.names [])) fp
  have pib := hib s3 H3 s3.heap.objs.size (cellsFrom (s3.heap.objs.size + 1) scope.names (cloFrom X.env.cells scope.names [])) fp
  have pgb := hgb s3 H3 s3.heap.objs.size (cellsFrom (s3.heap.objs.size + 1) scope.names (cloFrom X.env.cells scope.names [])) fp
  have ptb := htb s3 H3 s3.heap.objs.size (cellsFrom (s3.heap.objs.size + 1) scope.names (cloFrom X.env.cells scope.names [])) fp
  have nfp : ∀ b ∈ fp, H3 b = none := fun b hb => (f3 b hb).1.1
  have w0 : W 0 m0 H3 := w0
  clear_value H3
  show codeAny (model X.prog X.w) X.A (.compStart (sc2 el ta ia tb ib ca cb scope pos) 0 (.ref it) (.ref p) (compEnvC scope (cellsFrom (s3.heap.objs.size + 1) scope.names (cloFrom X.env.cells scope.names [])) s3.heap.objs.size X.env)) (compPost (model X.prog X.w) X.A X.xe none (EP X pins σ Q) (.ref p) s3.heap.objs.size) { s3 with heap := pushCells (s3.heap.push { cls := .type "dict", data := .dict #[] }) scope.names }
  generalize hce : compEnvC scope (cellsFrom (s3.heap.objs.size + 1) scope.names (cloFrom X.env.cells scope.names [])) s3.heap.objs.size X.env = ce at I4 pg pt pe pib pgb ptb ⊢
  have cL : ce.locals = s3.heap.objs.size := by rw [← hce] <;> rfl
  generalize hs4 : ({ s3 with heap := pushCells (s3.heap.push { cls := .type "dict", data := .dict #[] }) scope.names } : Shared) = s4 at I4 ⊢
  have st4 : tn 0 s4.heap := T.keep _ _ _ st3 fun b _ o e => by rw [← hs4]; exact pushCells_keeps _ _ _ _ (Heap.get?_push_of_some _ e)
  have stat : ∀ {σ' : L2.St} {H' : Hp} {s' : Shared}, L2.Inv (X.blk s3 H3 scope ce fp) [] σ' H' s' → (∀ b ∈ fp, H' b = none) → ∀ b ∈ fp, FpOk (X.blk s3 H3 scope ce fp) [] H' b := fun {σ' H' s'} I' hn b hb =>
    ⟨hn b hb, (I'.ok.exf b hb).1, I'.ok.exfs b hb, .inl hb, fun x c e => (I'.ok.exf b hb).2 x c e, fun r hr => absurd (show r ∈ ([] : List (Addr × Obj)) ++ [] from hr) (by simp)⟩
  have loop : codeAny (model X.prog X.w) X.A (.compLoop (sc2 el ta ia tb ib ca cb scope pos) 0 (.ref it) (.ref p) ce) (compPost (model X.prog X.w) X.A X.xe none (EP X pins σ Q) (.ref p) s3.heap.objs.size) s4 := by
    refine loopS_a (hsb ce) (fun n s' => ∃ i H', L2.Inv (X.blk s3 H3 scope ce fp) [] (wipe σ (own.map (·.2))) H' s' ∧ tn i s'.heap ∧ (∀ b ∈ fp, H' b = none) ∧ W i n H') ?_ m0 ⟨0, H3, I4, st4, nfp, w0⟩
    rintro n s5 ⟨i, H5, I5, st5, n5, w5⟩
    rcases turn i n H5 w5 with ⟨stop, qq⟩ | ⟨go, Nx, hNx, step⟩
    · refine thnF (T.done (X.blk s3 H3 scope ce fp) rfl rfl rfl hc i [] s5 _ H5 (fun _ _ => False) I5 (stat I5 n5) st5 stop) fun r s6 ⟨hr, I6⟩ => ?_
      subst hr
      have I7 : L2.Inv X pins σ H5 s6 := I3.call' (ch := fp) I6.os I6.base I6.hok I6.bare fun b hb =>
        let ⟨_, a1, _, a3, a4, a5⟩ := (f3 b hb).1
        ⟨a3, a1, a4, a5⟩
      have nC : H5 s3.heap.objs.size = none := cL ▸ I6.free
      obtain ⟨m, hn, _⟩ := I6.loc
      have hn : s6.heap.Ns s3.heap.objs.size m := cL ▸ hn
      obtain ⟨a0, a1, a2, a3, a4, a5⟩ := I3.fpOk (H' := H5) (Nat.le_refl _) nC
      exact ⟨m, hn, fun h9 sb => ⟨.ref p, H5, I7.turned (t' := s6.toks) (fun b o hb e => (sb.2 b hb).trans e) a0 a1 a3 a4 a5, rfl, qq⟩⟩
    · refine thnF (T.item (X.blk s3 H3 scope ce fp) rfl rfl rfl hc i [] s5 _ H5 (fun _ _ => False) I5 (stat I5 n5) st5 go) fun r s6 ⟨u, hr, h6⟩ => ?_
      subst hr
      refine thnF h6 fun _ s7 ⟨x, H7, I7, r7, y7, st7, n7⟩ => ?_
      refine thnF (pg.run _ s7 _ H7 x u _ (I7.pinned (stat I7 n7) (T.obj _ _ st7)) r7 (step x H7 y7)) fun _ s8 ⟨σ8, H8, I8, hw8, q8⟩ => ?_
      refine thnF (pt.run _ s8 σ8 H8 _ I8 q8) fun b s9 ⟨H9, I9, q9⟩ => ?_
      have fin : ∀ {σ9 : L2.St} {s' : Shared} {H' : Hp}, L2.Inv (X.blk s3 H3 scope ce fp) ([] ++ pinsAt fp s7.heap) σ9 H' s' → (wipe σ (own.map (·.2))).length = σ9.length → (∀ (j : Nat) v, (wipe σ (own.map (·.2)))[j]? = some (some v) → σ9[j]? = some (some v)) → Nx H' →
          ∃ m, m < n ∧ ∃ i H', L2.Inv (X.blk s3 H3 scope ce fp) [] (wipe σ (own.map (·.2))) H' s' ∧ tn i s'.heap ∧ (∀ b ∈ fp, H' b = none) ∧ W i m H' := fun {σ9 s' H'} I' hl hk nx => by
        obtain ⟨m', hm, w'⟩ := hNx H' nx
        have stays : ∀ b ∈ fp, ∀ o, s7.heap.get? b = some o → s'.heap.get? b = some o ∧ H' b = none := fun b hb o e => by
          obtain ⟨z1, z2, _⟩ := I'.pin (b, o) (List.mem_append_right _ (List.mem_append_right _ (mem_pinsAt hb e)))
          exact ⟨z1, z2⟩
        refine ⟨m', hm, i + 1, H', (I'.unpinned (pins := [])).weak hl hk, T.keep _ _ _ st7 fun b hb o e => (stays b hb o e).1, fun b hb => ?_, w'⟩
        obtain ⟨o, e, _⟩ := T.obj _ _ st7 b hb
        exact (stays b hb o e).2
      have hl8 : (wipe σ (own.map (·.2))).length = σ8.length := by rw [← hw8, wipe_length]
      have hk8 : ∀ (j : Nat) v, (wipe σ (own.map (·.2)))[j]? = some (some v) → σ8[j]? = some (some v) := fun j v e => by
        rw [← hw8] at e
        exact (wipe_some e).1
      have hk9 : ∀ (j : Nat) v, (wipe σ (own.map (·.2)))[j]? = some (some v) → (wipe σ8 vb)[j]? = some (some v) := fun j v e => by
        rw [← hw8] at e
        rw [wipe_out fun z => (wipe_some e).2 (hv j z)]
        exact (wipe_some e).1
      cases b with
      | false =>
        rw [if_neg Bool.false_ne_true] at q9 ⊢
        exact fin I9 hl8 hk8 q9
      | true =>
        rw [if_pos rfl] at q9 ⊢
        refine thnF (pib.run _ s9 σ8 H9 _ I9 q9) fun xv s10 hx => thnF hx fun itv s11 h11 => ?_
        obtain ⟨jt, fq, un, L, H11, rfl, I11, V, st11, f11, U, ⟨m1, w1⟩, turn1⟩ := h11
        have stat1 : ∀ {H' : Hp}, (∀ b ∈ fq, H' b = none) → ∀ b ∈ fq, FpOk (X.blk s3 H3 scope ce fp) ([] ++ pinsAt fp s7.heap) H' b := fun hn b hb => ⟨hn b hb, (f11 b hb).2⟩
        have loop1 : codeAny (model X.prog X.w) X.A (.compLoop (sc2 el ta ia tb ib ca cb scope pos) 1 (.ref jt) (.ref p) ce)
            (fun r s' => match r with
              | .ok _ => ∃ m, m < n ∧ ∃ i H', L2.Inv (X.blk s3 H3 scope ce fp) [] (wipe σ (own.map (·.2))) H' s' ∧ tn i s'.heap ∧ (∀ b ∈ fp, H' b = none) ∧ W i m H'
              | .error _ => False) s11 := by
          refine loopS_b (fun k s' => ∃ j H', L2.Inv (X.blk s3 H3 scope ce fp) ([] ++ pinsAt fp s7.heap) (wipe σ8 vb) H' s' ∧ un j s'.heap ∧ (∀ b ∈ fq, H' b = none) ∧ U j k H') ?_ m1 ⟨0, H11, I11.weak (wipe_length _ _) (fun j v e => (wipe_some e).1), st11, fun b hb => (f11 b hb).1, w1⟩
          rintro k s12 ⟨j, H12, I12, st12, n12, w12⟩
          rcases turn1 j k H12 w12 with ⟨stop1, nx1⟩ | ⟨go1, Ny, hNy, step1⟩
          · refine thnF (V.done (X.blk s3 H3 scope ce fp) rfl rfl rfl hc j _ s12 (wipe σ8 vb) H12 (fun _ _ => False) I12 (stat1 n12) st12 stop1) fun r s13 ⟨hr, I13⟩ => ?_
            subst hr
            exact fin I13 (hl8.trans (wipe_length σ8 vb).symm) hk9 nx1
          · refine thnF (V.item (X.blk s3 H3 scope ce fp) rfl rfl rfl hc j _ s12 (wipe σ8 vb) H12 (fun _ _ => False) I12 (stat1 n12) st12 go1) fun r s13 ⟨u1, hr, h13⟩ => ?_
            subst hr
            refine thnF h13 fun _ s14 ⟨x1, H14, I14, r14, y14, st14, n14⟩ => ?_
            refine thnF (pgb.run _ s14 (wipe σ8 vb) H14 x1 u1 _ (I14.pinned (stat1 n14) (V.obj _ _ st14)) r14 (step1 x1 H14 y14)) fun _ s15 ⟨σ15, H15, I15, hw15, q15⟩ => ?_
            refine thnF (ptb.run _ s15 σ15 H15 _ I15 q15) fun b1 s16 ⟨H16, I16, q16⟩ => ?_
            have fin1 : ∀ {s' : Shared} {H' : Hp}, L2.Inv (X.blk s3 H3 scope ce fp) (([] ++ pinsAt fp s7.heap) ++ pinsAt fq s14.heap) σ15 H' s' → Ny H' → ∃ m, m < k ∧ ∃ j H', L2.Inv (X.blk s3 H3 scope ce fp) ([] ++ pinsAt fp s7.heap) (wipe σ8 vb) H' s' ∧ un j s'.heap ∧ (∀ b ∈ fq, H' b = none) ∧ U j m H' := fun {s' H'} I' ny => by
              obtain ⟨m', hm, w'⟩ := hNy H' ny
              have stays : ∀ b ∈ fq, ∀ o, s14.heap.get? b = some o → s'.heap.get? b = some o ∧ H' b = none := fun b hb o e => by
                obtain ⟨z1, z2, _⟩ := I'.pin (b, o) (List.mem_append_right _ (List.mem_append_right _ (mem_pinsAt hb e)))
                exact ⟨z1, z2⟩
              refine ⟨m', hm, j + 1, H', I'.unpinned.weak (by rw [← hw15, wipe_length]) (fun j v e => by rw [← hw15] at e; exact (wipe_some e).1), V.keep _ _ _ st14 fun b hb o e => (stays b hb o e).1, fun b hb => ?_, w'⟩
              obtain ⟨o, e, _⟩ := V.obj _ _ st14 b hb
              exact (stays b hb o e).2
            cases b1 with
            | false =>
              rw [if_neg Bool.false_ne_true] at q16 ⊢
              exact fin1 I16 q16
            | true =>
              rw [if_pos rfl] at q16 ⊢
              refine thnF (pe.run _ s16 σ15 H16 _ I16 q16) fun z s17 ⟨yv, H17, I17, r17, k0, M0, n0, ey, h17, hz, ny⟩ => ?_
              subst ey
              obtain ⟨tk, rfl⟩ := (show ∃ t, z = Value.int k0 t from r17)
              exact addI_ok (X := X.blk s3 H3 scope ce fp) I17 h17 hz fun s18 I18 => fin1 I18 ny
        exact startS_b loop1 (V.self X.A 0 _ _ _ st11 loop1)
  exact codeAny_compStart_set loop (T.self X.A 0 _ _ _ st4 loop)
end
end RT

namespace RT
open PySem PySem.Spec PyProof.Rows L2
def nSet2 (f : FA) (gt : FGt) (t : FT) (f1 : FA) (gt1 : FGt) (t1 : FT) (fe : FE) (vs vs1 : List Nat) : FN := fun env x => match f env x with
  | some (ds, x1) => match compL2 gt t f1 gt1 t1 fe vs1 (wipeE env vs) ds x1 with
    | some (rs, x2) => match intsD rs with
      | some ns => if ns.length < 64 then some (ns, x2) else none
      | none => none
    | none => none
  | none => none
theorem intsD_cons {r : D} {l : List D} {ns : List Int} (h : intsD (r :: l) = some ns) : ∃ k rest, r = .int k ∧ intsD l = some rest ∧ ns = k :: rest := by
  unfold intsD at h
  split at h
  · rename_i z; cases z
  · rename_i kk rr z
    cases z
    split at h
    · rename_i rest e
      cases h
      exact ⟨_, _, rfl, e, rfl⟩
    · cases h
  · cases h
theorem set2_read {K : PySem.W.Frag} {w : World} {f f1 : FA} {gt gt1 : FGt} {t t1 : FT} {fe : FE} {vs vs1 : List Nat} {σ : L2.St} {H : Hp} {Q : VK} (gk : TgOk gt) (h : tSet K w (nSet2 f gt t f1 gt1 t1 fe vs vs1) σ H Q) : tSi2 w (tI w K f) (tG w K vs gt) (tT w K t) (tI w K f1) (tG w K vs1 gt1) (tT w K t1) (tE w K fe) vs vs1 σ H Q := by
  obtain ⟨g, O, env, x, ns, x', S, e, k⟩ := h
  unfold nSet2 at e
  split at e
  · rename_i ds x1 e1
    split at e
    · rename_i rs x2 e2
      split at e
      · rename_i ns' e0
        split at e
        · rename_i hl
          cases e
          refine ⟨g, O, env, x, ds, x1, S, e1, fun J more H1 S1 l1 wk p hp => ?_⟩
          have n1 := S1.newp hp
          have hp0 : Gone H p := Le.gone l1 (.of hp) S1.unadd
          have hne : ∀ (j : Nat) d b, env[j]? = some d → isOwn d = true → σ[j]? = some (some (.ref b)) → b ≠ p := fun j d b h1 h0 h2 => own_ne2 S1 (.of hp) h1 h0 h2
          refine ⟨fun i m H2 => m = ds.length - i ∧ i ≤ ds.length ∧ Le g H H2 ∧ ∃ x M dn rest rd, FSt w K (g.add more) (oAdd O p) σ H2 env x ∧ H2 p = some (SetIO w p M (nubI dn).length) ∧ (∀ k, M k = true ↔ k ∈ dn) ∧ compL2 gt t f1 gt1 t1 fe vs1 (wipeE env vs) (ds.drop i) x = some (rd, x') ∧ intsD rd = some rest ∧ dn ++ rest = ns,
            ⟨_, rfl, Nat.zero_le _, l1.trans (.of (same_upd hp)), x1, _, [], ns, rs, S1.own hp notC_set, upd_same, (fun k => by simp), e2, e0, rfl⟩, fun i m H2 hW => ?_⟩
          obtain ⟨rfl, hil, lH, x, M, dn, rest, rd, S2, hacc, hM, e, ei, er⟩ := hW
          obtain ⟨wgo, wst⟩ := wk _ σ H2 env x i S2
          by_cases hlt : i < ds.length
          · have hd : ds[i]? = some ds[i] := List.getElem?_eq_getElem hlt
            obtain ⟨go, yl⟩ := wgo _ hd
            rw [drop_get hd] at e
            refine .inr ⟨go, fun H2 => i + 1 ≤ ds.length ∧ Le g H H2 ∧ ∃ x M dn rest rd, FSt w K (g.add more) (oAdd O p) σ H2 env x ∧ H2 p = some (SetIO w p M (nubI dn).length) ∧ (∀ k, M k = true ↔ k ∈ dn) ∧ compL2 gt t f1 gt1 t1 fe vs1 (wipeE env vs) (ds.drop (i + 1)) x = some (rd, x') ∧ intsD rd = some rest ∧ dn ++ rest = ns,
              fun H' hN => ⟨ds.length - (i + 1), by omega, rfl, hN.1, hN.2⟩, fun v H3 hy => ?_⟩
            obtain ⟨sm, rv⟩ := yl v H3 hy
            unfold compL2 at e
            split at e
            · cases e
            · rename_i env1 e3
              have S3 := S2.same sm
              refine ⟨g.add more, oAdd O p, wipeE env vs, x, ds[i], env1, S3.wiped vs, rv, e3, fun σ1 w1 S4 => ⟨w1.trans (wipe_wipe σ vs), ?_⟩⟩
              have hne1 : ∀ (j : Nat) d b, env1[j]? = some d → isOwn d = true → σ1[j]? = some (some (.ref b)) → b ≠ p := fun j d b h1 h0 h2 => by
                have q := gk _ _ _ e3 j d h1 h0
                rcases wipeE_get q with z | ⟨z, z2⟩
                · rw [z] at h0; cases h0
                · refine hne j d b z2 h0 ?_
                  have a1 : (wipe σ1 vs)[j]? = σ1[j]? := by rw [wipe_get, if_neg z]
                  have a2 : (wipe (wipe σ vs) vs)[j]? = σ[j]? := by rw [wipe_wipe, wipe_get, if_neg z]
                  rw [← a2, ← w1, a1]; exact h2
              split at e
              · rename_i xb e4
                split at e
                · rename_i ds1 xc e5
                  split at e
                  · rename_i rsA xd e6
                    split at e
                    · rename_i rs' xe e7
                      cases e
                      refine ⟨g.add more, oAdd O p, env1, x, _, xb, S4, e4, fun H5 S5 l5 => ?_⟩
                      refine iteT ?_
                      refine ⟨g.add more, oAdd O p, env1, xb, ds1, xc, S5, e5, fun J1 more1 H6 S6 l6 wk1 => ?_⟩
                      have l7 : Le (g.add more) H2 H6 := (Le.of sm).trans (l5.trans l6)
                      have S7 := S2.step l7 S6.tb fun r hr => (S6.row r hr).2.2
                      refine ⟨fun j m H7 => m = ds1.length - j ∧ j ≤ ds1.length ∧ Le g H H7 ∧ ∃ y M dn1 rest1 rd1, FSt w K (g.add more) (oAdd O p) σ H7 env y ∧ FSt w K ((g.add more).add more1) (oAdd O p) σ1 H7 env1 y ∧ H7 p = some (SetIO w p M (nubI dn1).length) ∧ (∀ k, M k = true ↔ k ∈ dn1) ∧ compL gt1 t1 fe (wipeE env1 vs1) (ds1.drop j) y = some (rd1, xd) ∧ intsD (rd1 ++ rs') = some rest1 ∧ dn1 ++ rest1 = ns,
                        ⟨_, rfl, Nat.zero_le _, fun c u hR e tn => l7 c u hR (lH c u hR e tn) tn, xc, M, dn, rest, rsA, S7, S6, l7 p _ n1.2 hacc rfl, hM, e6, ei, er⟩, fun j m H7 hW => ?_⟩
                      obtain ⟨rfl, hjl, lH7, y, M1, dn1, rest1, rd1, So, Si, hacc1, hM1, ec, ei1, er1⟩ := hW
                      obtain ⟨wgo1, wst1⟩ := wk1 _ σ1 H7 env1 y j Si
                      by_cases hlt1 : j < ds1.length
                      · have hd1 : ds1[j]? = some ds1[j] := List.getElem?_eq_getElem hlt1
                        obtain ⟨go1, yl1⟩ := wgo1 _ hd1
                        rw [drop_get hd1] at ec
                        refine .inr ⟨go1, fun H7 => j + 1 ≤ ds1.length ∧ Le g H H7 ∧ ∃ y M dn1 rest1 rd1, FSt w K (g.add more) (oAdd O p) σ H7 env y ∧ FSt w K ((g.add more).add more1) (oAdd O p) σ1 H7 env1 y ∧ H7 p = some (SetIO w p M (nubI dn1).length) ∧ (∀ k, M k = true ↔ k ∈ dn1) ∧ compL gt1 t1 fe (wipeE env1 vs1) (ds1.drop (j + 1)) y = some (rd1, xd) ∧ intsD (rd1 ++ rs') = some rest1 ∧ dn1 ++ rest1 = ns,
                          fun H' hN => ⟨ds1.length - (j + 1), by omega, rfl, hN.1, hN.2⟩, fun v1 H8 hy1 => ?_⟩
                        obtain ⟨sm1, rv1⟩ := yl1 v1 H8 hy1
                        unfold compL at ec
                        split at ec
                        · cases ec
                        · rename_i env2 c3
                          have T3 := Si.same sm1
                          refine ⟨(g.add more).add more1, oAdd O p, wipeE env1 vs1, y, ds1[j], env2, T3.wiped vs1, rv1, c3, fun σ2 w2 T4 => ⟨w2.trans (wipe_wipe σ1 vs1), ?_⟩⟩
                          split at ec
                          · rename_i ya c4
                            split at ec
                            · rename_i r yc c5
                              split at ec
                              · rename_i rs2 yd c6
                                cases ec
                                obtain ⟨kk, rest', rfl, ei', rfl⟩ := intsD_cons ei1
                                refine ⟨(g.add more).add more1, oAdd O p, env2, y, _, ya, T4, c4, fun H9 T5 k5 => ?_⟩
                                refine iteT ?_
                                refine ⟨(g.add more).add more1, oAdd O p, env2, ya, _, yc, T5, c5, fun z H10 T6 k6 r6 => ?_⟩
                                cases r6
                                have k7 : Le ((g.add more).add more1) H7 H10 := (Le.of sm1).trans (k5.trans k6)
                                have So7 := So.step (H' := H10) (x' := yc) k7 T6.tb fun r hr => (T6.row r hr).2.2
                                have Si7 := Si.step k7 T6.tb fun r hr => (T6.row r hr).2.2
                                have hacc' := k7 p _ n1.2 hacc1 rfl
                                have hlen : (nubI dn1).length ≤ dn1.length := by
                                  have z := nub_len dn1 []
                                  rw [List.length_nil, Nat.zero_add] at z
                                  exact z
                                have ll : dn1.length < 64 := by
                                  have h2 : (dn1 ++ kk :: rest').length = ns.length := by rw [er1]
                                  rw [List.length_append, List.length_cons] at h2
                                  omega
                                have hnub : (if M1 kk = true then (nubI dn1).length else (nubI dn1).length + 1) = (nubI (dn1 ++ [kk])).length := by
                                  rw [nubI_snoc]
                                  by_cases q : kk ∈ dn1
                                  · rw [if_pos ((hM1 kk).mpr q), if_pos ((nubI_mem dn1 kk).mpr q)]
                                  · rw [if_neg (fun z => q ((hM1 kk).mp z)), if_neg (fun z => q ((nubI_mem dn1 kk).mp z)), List.length_append, List.length_singleton]
                                refine ⟨kk, M1, _, rfl, hacc', Nat.lt_of_le_of_lt (show (nubI dn1).length + 1 ≤ 64 by omega) (by decide), hlt1, ?_, yc, _, dn1 ++ [kk], rest', rs2, So7.upd1 hacc' notC_set (.inr rfl) n1.1 n1.2 notC_set hne, Si7.upd1 hacc' notC_set (.inr rfl) n1.1 n1.2 notC_set hne1, by rw [upd_same, hnub], fun k => ?_, c6, ei', by rw [List.append_assoc]; exact er1⟩
                                · intro c u hR e tn
                                  have zz : c ≠ p := fun zz => by rw [zz] at e; exact hp0.no e tn
                                  rw [upd_ne zz]
                                  exact k7 c u hR (lH7 c u hR e tn) tn
                                · rw [Bool.or_eq_true, hM1 k, List.mem_append, List.mem_singleton, decide_eq_true_iff]
                              · cases ec
                            · cases ec
                          · rename_i ya c4
                            refine ⟨(g.add more).add more1, oAdd O p, env2, y, _, ya, T4, c4, fun H9 T5 k5 => ?_⟩
                            refine iteF ?_
                            have k7 : Le ((g.add more).add more1) H7 H9 := (Le.of sm1).trans k5
                            have So7 := So.step (H' := H9) (x' := ya) k7 T5.tb fun r hr => (T5.row r hr).2.2
                            have Si7 := Si.step k7 T5.tb fun r hr => (T5.row r hr).2.2
                            exact ⟨hlt1, fun c u hR e tn => k7 c u hR (lH7 c u hR e tn) tn, ya, M1, dn1, rest1, rd1, So7, Si7, k7 p _ n1.2 hacc1 rfl, hM1, ec, ei1, er1⟩
                          · cases ec
                      · have hj : j = ds1.length := by omega
                        rw [hj, List.drop_length] at ec
                        unfold compL at ec
                        cases ec
                        rw [List.nil_append] at ei1
                        exact .inl ⟨wst1 hj, hlt, lH7, _, M1, dn1, rest1, rs', So, hacc1, hM1, e7, ei1, er1⟩
                    · cases e
                  · cases e
                · cases e
              · rename_i xb e4
                refine ⟨g.add more, oAdd O p, env1, x, _, xb, S4, e4, fun H5 S5 l5 => ?_⟩
                refine iteF ?_
                have l7 : Le (g.add more) H2 H5 := (Le.of sm).trans l5
                have S7 := S2.step l7 S5.tb fun r hr => (S5.row r hr).2.2
                exact ⟨hlt, fun c u hR e tn => l7 c u hR (lH c u hR e tn) tn, xb, M, dn, rest, rd, S7, l7 p _ n1.2 hacc rfl, hM, e, ei, er⟩
              · cases e
          · have hi : i = ds.length := by omega
            rw [hi, List.drop_length] at e
            unfold compL2 at e
            cases e
            cases ei
            rw [List.append_nil] at er
            subst er
            exact .inl ⟨wst hi, k p H2 M S2.unadd lH hp0 hacc hM hl⟩
        · cases e
      · cases e
    · cases e
  · cases e
section
variable {X : Cx} {pos : Pos}
theorem sn_comp2 {elt tg iter tg1 iter1 : Expr} {ifs ifs1 : List Expr} {scope : Scope} {own : List (Str × Nat)} {vs1 : List Nat} {f f1 : FA} {gt gt1 : FGt} {t t1 : FT} {fe : FE} (hc : X.calm = true) (hN : X.N.Nodup) (hi : SI X tg iter f) (ok : BlkOk X.N X.env.scope scope own) (hv : ∀ i ∈ vs1, i ∈ own.map (·.2)) (gk : TgOk gt)
    (hg : ∀ (s : Shared) (H : Hp) (C : Addr) (cl : List (Str × Addr)) (fp : List Addr), SG (X.blk s H scope (compEnvC scope cl C X.env) fp) tg (own.map (·.2)) gt)
    (ht : ∀ (s : Shared) (H : Hp) (C : Addr) (cl : List (Str × Addr)) (fp : List Addr), STs (X.blk s H scope (compEnvC scope cl C X.env) fp) ifs t)
    (hi1 : ∀ (s : Shared) (H : Hp) (C : Addr) (cl : List (Str × Addr)) (fp : List Addr), SI (X.blk s H scope (compEnvC scope cl C X.env) fp) tg1 iter1 f1)
    (hg1 : ∀ (s : Shared) (H : Hp) (C : Addr) (cl : List (Str × Addr)) (fp : List Addr), SG (X.blk s H scope (compEnvC scope cl C X.env) fp) tg1 vs1 gt1)
    (ht1 : ∀ (s : Shared) (H : Hp) (C : Addr) (cl : List (Str × Addr)) (fp : List Addr), STs (X.blk s H scope (compEnvC scope cl C X.env) fp) ifs1 t1)
    (he : ∀ (s : Shared) (H : Hp) (C : Addr) (cl : List (Str × Addr)) (fp : List Addr), SE (X.blk s H scope (compEnvC scope cl C X.env) fp) elt fe)
    (hs : ∀ x, foldedSetIterable iter X.env x = pure x := by intro _; rfl) (hs1 : ∀ env x, foldedSetIterable iter1 env x = pure x := by intro _ _; rfl) :
    SN X (.SetComp elt [⟨tg, iter, ifs, 0⟩, ⟨tg1, iter1, ifs1, 0⟩] scope pos) (nSet2 f gt t f1 gt1 t1 fe (own.map (·.2)) vs1) :=
  ⟨PEw (pe_si2 hc hN hi.out ok hv (fun s H C cl fp => (show PG _ tg (tG X.w X.K (own.map (·.2)) gt) from (hg s H C cl fp).out)) (fun s H C cl fp => (show PTs _ ifs (tT X.w X.K t) from (ht s H C cl fp).out)) (fun s H C cl fp => (show PI _ tg1 iter1 (tI X.w X.K f1) from (hi1 s H C cl fp).out)) (fun s H C cl fp => (show PG _ tg1 (tG X.w X.K vs1 gt1) from (hg1 s H C cl fp).out)) (fun s H C cl fp => (show PTs _ ifs1 (tT X.w X.K t1) from (ht1 s H C cl fp).out)) (fun s H C cl fp => (show PE _ elt (tE X.w X.K fe) from (he s H C cl fp).out)) hs hs1) fun σ H Q h => set2_read gk h⟩
/-! x in a constant tuple of texts -/
def fInS (cs : List Str) (fa : FE) : FE := fun env x => match fa env x with
  | some (.str s, x1) => some (.bool (cs.any fun c => decide (c = s)), x1)
  | _ => none
theorem inV_strs (s : Str) (cs : List Str) : inV (.str s) (cs.map V.str) = cs.any fun c => decide (c = s) := by
  unfold inV
  rw [List.any_map]
  congr 1
theorem flat_strs (cs : List Str) : (cs.map V.str).all flatV = true := by
  rw [List.all_eq_true]
  intro v hv
  obtain ⟨c, _, rfl⟩ := List.mem_map.mp hv
  rfl
theorem se_inS {a : Expr} {fa : FE} {n : Str} {p1 : Pos} {ad : Addr} {o : Obj} {its : Array Value} {m : Nat} (cs : List Str) (hg : Gl X n) (hm : X.mg n = some (.ref ad)) (hK : X.K.lookup ad = some o) (hcl : o.cls = .type "tuple") (hda : o.data = .seq its m) (hsz : its.size ≤ sizeLine) (hvs : Vals (cs.map V.str) its.toList) (ha : SB X a fa) (hd : (n == ("__debug__" : Str)) = false := by decide) (hmk : behindInMarks .In (.Name n p1) = false := by rfl) : SE X (.Compare a [.In] [.Name n p1] pos) (fInS cs fa) := by
  refine ⟨PEw (pe_cmpR op_in_seq ha.out (pe_glob (v := .ref ad) hg hm rfl hd) hmk) fun σ H Q h => ?_⟩
  obtain ⟨g, O, env, x, d, x', S, e, k⟩ := h
  unfold fInS at e
  split at e
  · rename_i s x1 e1
    cases e
    refine ⟨g, O, env, x, _, x', S, e1, fun v H1 S1 l1 r1 => ?_⟩
    have : v = .str s := r1.str
    subst this
    refine ⟨ad, cs.map V.str, rfl, .inr (.inr ⟨o, its, m, hK, hcl, hda, hsz, hvs⟩), rfl, flat_strs cs, ?_⟩
    simp only [Bool.false_eq_true, if_false, inV_strs]
    exact k _ _ S1 l1 (.bl _)
  · cases e
/-! a < b of data that are alike -/
def gLtD : D → D → Option D := fun d e => if shapedD d && shapedD e && PySem.W.alike d.py e.py && !isNoneD d then some (.bool (PySem.W.dataLt d.py e.py)) else none
theorem od_ltD (hu : X.A.units + 64 < cLine) : OpD X (compareOp .Lt) gLtD := by
  intro pins s σ H x y v u Q I rx ry h
  obtain ⟨g, O, σ', env, x0, d, e, r, S, r1, r2, q, k⟩ := h
  unfold gLtD at q
  split at q
  · rename_i hc
    cases q
    simp only [Bool.and_eq_true, Bool.not_eq_true'] at hc
    obtain ⟨⟨⟨h1, h2⟩, h3⟩, h4⟩ := hc
    obtain ⟨as, q1⟩ := Dp.reads I d.py _ v (r1.dp h1) rx
    obtain ⟨bs, q2⟩ := Dp.reads I e.py _ u (r2.dp h2) ry
    have hd := SeqAt.depth_of_shaped h1
    have hn : d.py ≠ .none := fun z => by
      cases d <;> simp [D.py] at z
      simp [isNoneD] at h4
    show wpAny _ _ (richCompare .Lt v u) _ _ s
    exact PySem.W.rcLt_alike d.py e.py X.A s v u as bs q1 q2 h3 hn (by have := Nat.min_le_left d.py.depth e.py.depth; omega) _ _ _ _ ⟨.bl _, H, I, rfl, k _ _ (Same.refl _) (.bl _)⟩
  · cases q
def gLtX : D → D → Option D := gOr gLt gLtD
theorem od_ltX (hu : X.A.units + 64 < cLine) : OpD X (compareOp .Lt) gLtX := (od_ltA (by omega)).or (od_ltD hu)
end
end RT

namespace RT
open PySem PySem.Spec PyProof.Rows L2
/-! ### dicts with keys of any kind -/
section
variable {ω : World} {K : PySem.W.Frag} {O : Addr → Prop} {H : Hp} {P : Program} {w : World} {h : Heap}
mutual
theorem nis (ok : HOk P w H h) : ∀ (d : D) (v : V) (u : Value) (k : NestedKey), Rp K O H v d → nk d = some k → RelV v u → NestedIs h k u
  | .none, _, _, _, .non, e, r => by
    simp only [nk, Option.some.injEq] at e; subst e
    obtain rfl := (show _ = Value.none from r); exact .none
  | .bool b, _, _, _, .bl _, e, r => by
    simp only [nk, Option.some.injEq] at e; subst e
    obtain rfl := (show _ = Value.bool b from r); exact .bool rfl
  | .int i, _, _, _, .int _, e, r => by
    simp only [nk, Option.some.injEq] at e; subst e
    obtain ⟨t, rfl⟩ := (show ∃ t, _ = Value.int i t from r); exact .int _ t
  | .str x, _, _, _, .str _, e, r => by
    simp only [nk, Option.some.injEq] at e; subst e
    obtain ⟨t, rfl⟩ := (show ∃ t, _ = Value.str x t from r); exact .text _ t
  | .tuple ds, _, _, _, @Rp.tup _ _ _ a xs _ ha he rs, e, r => by
    simp only [nk, Option.map_eq_some_iff] at e
    obtain ⟨ks, e1, rfl⟩ := e
    obtain rfl := (show _ = Value.ref a from r)
    obtain ⟨_, its, rv, o, h1, h2, n, h3⟩ := ok a _ he
    exact .tup h1 h2 h3 (niss ok ds xs its ks rs e1 rv)
theorem niss (ok : HOk P w H h) : ∀ (ds : List D) (vs : List V) (us : List Value) (ks : List NestedKey), RpA K O H vs ds → nks ds = some ks → Vals vs us → NestedAll h ks us
  | [], _, _, _, .nil, e, .nil => by
    simp only [nks, Option.some.injEq] at e; subst e; exact .nil
  | d :: ds, _, _, _, .cons a b, e, .cons r rs => by
    simp only [nks] at e
    split at e
    · rename_i k ks e1 e2
      cases e
      exact .cons (nis ok d _ _ k a e1 r) (niss ok ds _ _ ks b e2 rs)
    · cases e
end
theorem lf_nk {d : D} {l : Leaf} (e : lf d = some l) : nk d = some l.key ∧ isTupD d = false := by
  cases d <;> simp only [lf, Option.some.injEq, reduceCtorEq] at e <;> subst e <;> exact ⟨rfl, rfl⟩
theorem lf_of {d : D} {q : NestedKey} (e : nk d = some q) (t : isTupD d = false) : ∃ l, lf d = some l ∧ q = l.key := by
  cases d <;> simp only [nk, Option.some.injEq, reduceCtorEq] at e <;> first | (cases t; done) | (subst e; exact ⟨_, rfl, rfl⟩)
theorem lf_is {d : D} {l : Leaf} {v : V} {u : Value} (e : lf d = some l) (r : Rp K O H v d) (ru : RelV v u) : Leaf.isOf l u = true := by
  cases d <;> simp only [lf, Option.some.injEq, reduceCtorEq] at e <;> subst e <;> cases r
  · obtain rfl := (show u = Value.none from ru); rfl
  · obtain rfl := (show u = Value.bool _ from ru); exact decide_eq_true rfl
  · obtain ⟨t, rfl⟩ := (show ∃ t, u = Value.int _ t from ru); exact decide_eq_true rfl
  · rename_i x
    obtain ⟨t, rfl⟩ := (show ∃ t, u = Value.str _ t from ru); simp [Leaf.isOf, Value.isStrOf]
/-- what stands for the key q -/
def valA (ds : List (D × D)) (q : NestedKey) : Option D := (ds.find? fun p => decide (nk p.1 = some q)).map (·.2)
abbrev upT (y : NestedKey × Addr × Value) : DaX := (y.1, .ref y.2.1, y.2.2)
theorem da_tup {a : Addr} {xs : List DaX} {ds : List (D × D)} (ok : HOk P w H h) (e : H a = some (.ext (RawD w a xs))) (r : Paired (DaR K O H) xs ds) (ht : ∀ p ∈ ds, isTupD p.1 = true) :
    (a == sysModules) = false ∧ ∃ ys : List (NestedKey × Addr × Value), xs = ys.map upT ∧ h.DictOfH (nestedKind P w) a ys := by
  have raw : RawD w a xs h := (ok a _ e).1
  have key : ∀ {xs : List DaX} {ds : List (D × D)}, Paired (DaR K O H) xs ds → (∀ p ∈ ds, isTupD p.1 = true) → ∃ ys : List (NestedKey × Addr × Value), xs = ys.map upT ∧ ∀ y ∈ ys, (nestedKind P w).is h y.1 y.2.1 := by
    intro xs ds r
    induction r with
    | nil => exact fun _ => ⟨[], rfl, fun _ h => nomatch h⟩
    | @cons x p xs ds r _ ih =>
      intro ht
      obtain ⟨ys, rfl, hy⟩ := ih fun p hp => ht p (List.mem_cons_of_mem _ hp)
      obtain ⟨v, rv, rp⟩ := r.u (ht p List.mem_cons_self)
      obtain ⟨b, rfl⟩ : ∃ b, v = .ref b := by
        have := ht p List.mem_cons_self
        cases hd : p.1 <;> rw [hd] at this <;> first | (cases this; done) | (rw [hd] at rp; exact rp.isRef)
      have e2 : x.2.1 = .ref b := rv
      have n := nis ok p.1 _ _ _ rp r.k rv
      rw [e2] at n
      refine ⟨(x.1, b, x.2.2) :: ys, ?_, fun y hy' => ?_⟩
      · rw [List.map_cons]; congr 1; show x = (x.1, .ref b, x.2.2); rw [← e2]
      · rcases List.mem_cons.mp hy' with rfl | hy'
        · exact ⟨n, r.dp⟩
        · exact hy y hy'
  obtain ⟨ys, rfl, hy⟩ := key r ht
  obtain ⟨hs, o, es, ep, h1, h2, h3, h4, h5⟩ := raw
  refine ⟨hs, ys, rfl, o, es, ep, h1, h2, h3, ?_, hy, ?_⟩
  · rw [h4, List.map_map]; rfl
  · rw [List.map_map] at h5; exact h5
theorem raw_tup {a : Addr} {ys : List (NestedKey × Addr × Value)} (hs : (a == sysModules) = false) (x : h.DictOfH (nestedKind P w) a ys) : RawD w a (ys.map upT) h := by
  obtain ⟨o, es, ep, h1, h2, h3, h4, _, h5⟩ := x
  refine ⟨hs, o, es, ep, h1, h2, h3, ?_, ?_⟩
  · rw [h4, List.map_map]; rfl
  · rw [List.map_map]; exact h5
theorem raw_ok {a : Addr} {xs : List DaX} (x : RawD w a xs h) : ObjOk P w H h a (.ext (RawD w a xs)) := by
  refine ⟨x, ?_, fun h1 h2 p k => ?_⟩
  · obtain ⟨_, o, _, _, e, _⟩ := x; exact ⟨o, e⟩
  · obtain ⟨hs, o, es, ep, e, r⟩ := p
    exact ⟨hs, o, es, ep, k o e, r⟩
theorem da_leaf {a : Addr} {xs : List DaX} {ds : List (D × D)} (ok : HOk P w H h) (e : H a = some (.ext (RawD w a xs))) (r : Paired (DaR K O H) xs ds) (ht : ∀ p ∈ ds, isTupD p.1 = false) :
    (a == sysModules) = false ∧ ∃ kvs : List (Leaf × Value), Paired (fun (y : Leaf × Value) (p : D × D) => lf p.1 = some y.1 ∧ ∃ v, RelV v y.2 ∧ Rp K O H v p.2) kvs ds ∧ h.DictOf (leafKind P w) a kvs := by
  have raw : RawD w a xs h := (ok a _ e).1
  have key : ∀ {xs : List DaX} {ds : List (D × D)}, Paired (DaR K O H) xs ds → (∀ p ∈ ds, isTupD p.1 = false) → ∃ kvs : List (Leaf × Value), Paired (fun (y : Leaf × Value) (p : D × D) => lf p.1 = some y.1 ∧ ∃ v, RelV v y.2 ∧ Rp K O H v p.2) kvs ds ∧
      xs.map (·.1) = kvs.map (fun y => y.1.key) ∧ Pairs (leafKind P w) (xs.map fun x => (⟨x.1.hash w, x.2.1, x.2.2⟩ : DictEntry)) kvs ∧ ∀ x ∈ xs, ∃ l, Leaf.isOf l x.2.1 = true ∧ x.1 = l.key := by
    intro xs ds r
    induction r with
    | nil => exact fun _ => ⟨[], .nil, rfl, .nil, fun _ h => nomatch h⟩
    | @cons x p xs ds r _ ih =>
      intro ht
      obtain ⟨kvs, p1, p2, p3, p4⟩ := ih fun p hp => ht p (List.mem_cons_of_mem _ hp)
      obtain ⟨l, e1, e2⟩ := lf_of r.k (ht p List.mem_cons_self)
      refine ⟨(l, x.2.2) :: kvs, .cons ⟨e1, r.v⟩ p1, by rw [List.map_cons, List.map_cons, p2, e2], .cons (r.l l e1) rfl p3, fun y hy => ?_⟩
      rcases List.mem_cons.mp hy with rfl | hy
      · exact ⟨l, r.l l e1, e2⟩
      · exact p4 y hy
  obtain ⟨kvs, p1, p2, p3, p4⟩ := key r ht
  obtain ⟨hs, o, es, ep, h1, h2, h3, h4, h5⟩ := raw
  refine ⟨hs, kvs, p1, o, es, ep, h1, h2, h3, ?_, ?_, ?_⟩
  · intro y hy
    have : y ∈ es.toList := by simpa using hy
    rw [h4] at this
    obtain ⟨x, hx, rfl⟩ := List.mem_map.mp this
    obtain ⟨l, q1, q2⟩ := p4 x hx
    exact ⟨l, q1, by show x.1.hash w = l.key.hash w; rw [q2]⟩
  · rw [h4]; exact p3
  · rw [p2] at h5
    have : (kvs.map (·.1)).map Leaf.key = kvs.map (fun y => y.1.key) := by rw [List.map_map]; rfl
    rw [← this] at h5
    exact List.Pairwise.of_map Leaf.key (fun a b hab e => hab (by rw [e])) h5
theorem raw_leaf {a : Addr} {kvs : List (Leaf × Value)} (hs : (a == sysModules) = false) (x : h.DictOf (leafKind P w) a kvs) :
    ∃ xs : List DaX, RawD w a xs h ∧ Paired (fun (x : DaX) (y : Leaf × Value) => x.1 = y.1.key ∧ Leaf.isOf y.1 x.2.1 = true ∧ x.2.2 = y.2) xs kvs := by
  obtain ⟨o, es, ep, h1, h2, h3, h4, h5, h6⟩ := x
  have key : ∀ {es : List DictEntry} {kvs : List (Leaf × Value)}, Pairs (leafKind P w) es kvs → (∀ e ∈ es, ∃ k, (leafKind P w).is k e.key = true ∧ e.hash = (leafKind P w).hash k) →
      ∃ xs : List DaX, es = xs.map (fun x => (⟨x.1.hash w, x.2.1, x.2.2⟩ : DictEntry)) ∧ Paired (fun (x : DaX) (y : Leaf × Value) => x.1 = y.1.key ∧ Leaf.isOf y.1 x.2.1 = true ∧ x.2.2 = y.2) xs kvs := by
    intro es kvs p
    induction p with
    | nil => exact fun _ => ⟨[], rfl, .nil⟩
    | @cons e kv es kvs q1 q2 _ ih =>
      intro hk
      obtain ⟨xs, rfl, r⟩ := ih fun e he => hk e (List.mem_cons_of_mem _ he)
      obtain ⟨k, k1, k2⟩ := hk e List.mem_cons_self
      have ek : k = kv.1 := (leafKind P w).inj _ _ _ k1 q1
      subst ek
      refine ⟨(kv.1.key, e.key, e.val) :: xs, ?_, .cons ⟨rfl, q1, q2⟩ r⟩
      rw [List.map_cons]; congr 1
      show e = ⟨kv.1.key.hash w, e.key, e.val⟩
      rw [show kv.1.key.hash w = e.hash from k2.symm]
  obtain ⟨xs, e1, r⟩ := key h5 fun e he => h4 e (by simpa using he)
  refine ⟨xs, ⟨hs, o, es, ep, h1, h2, h3, e1, ?_⟩, r⟩
  have e2 : xs.map (·.1) = (kvs.map (·.1)).map Leaf.key := by
    clear e1 h5 h6 h3 h4
    induction r with
    | nil => rfl
    | cons a _ ih => rw [List.map_cons, List.map_cons, List.map_cons, ih, a.1]
  rw [e2]
  exact List.Pairwise.map _ (fun a b hab e => hab (Leaf.key_inj e)) h6
end
end RT

namespace RT
open PySem PySem.Spec PyProof.Rows L2
section
variable {ω : World} {K : PySem.W.Frag} {O : Addr → Prop} {H : Hp} {P : Program} {w : World} {h : Heap}
theorem val_tup {q : NestedKey} : ∀ {ys : List (NestedKey × Addr × Value)} {ds : List (D × D)}, Paired (DaR K O H) (ys.map upT) ds →
    (valA ds q = none ∧ atKey ys q = none) ∨ ∃ d p v, valA ds q = some d ∧ atKey ys q = some p ∧ RelV v p.2 ∧ Rp K O H v d
  | [], _, .nil => .inl ⟨rfl, rfl⟩
  | y :: ys, p :: ds, .cons r rs => by
    have ih := val_tup (q := q) rs
    have k : nk p.1 = some y.1 := r.k
    by_cases c : y.1 = q
    · obtain ⟨v, a, b⟩ := r.v
      exact .inr ⟨p.2, y.2, v, by simp [valA, k, c], by simp [atKey, c], a, b⟩
    · have e1 : valA (p :: ds) q = valA ds q := by simp [valA, k, c]
      have e2 : atKey (y :: ys) q = atKey ys q := by simp [atKey, c]
      rw [e1, e2]; exact ih
theorem val_leaf {l : Leaf} : ∀ {kvs : List (Leaf × Value)} {ds : List (D × D)}, Paired (fun (y : Leaf × Value) (p : D × D) => lf p.1 = some y.1 ∧ ∃ v, RelV v y.2 ∧ Rp K O H v p.2) kvs ds →
    (valA ds l.key = none ∧ valueAt kvs l = none) ∨ ∃ d u v, valA ds l.key = some d ∧ valueAt kvs l = some u ∧ RelV v u ∧ Rp K O H v d
  | [], _, .nil => .inl ⟨rfl, rfl⟩
  | y :: ys, p :: ds, .cons r rs => by
    have ih := val_leaf (l := l) rs
    have k : nk p.1 = some y.1.key := (lf_nk r.1).1
    by_cases c : y.1 = l
    · obtain ⟨v, a, b⟩ := r.2
      exact .inr ⟨p.2, y.2, v, by simp [valA, k, c], by simp [valueAt, c], a, b⟩
    · have c' : ¬ y.1.key = l.key := fun z => c (Leaf.key_inj z)
      have e1 : valA (p :: ds) l.key = valA ds l.key := by simp [valA, k, c']
      have e2 : valueAt (y :: ys) l = valueAt ys l := by simp [valueAt, c]
      rw [e1, e2]; exact ih
theorem stored_new' {κ : Type} [DecidableEq κ] {kvs : List (κ × Value)} {k : κ} (h : valueAt kvs k = none) (v : Value) : stored kvs k v = kvs ++ [(k, v)] := by
  unfold stored
  rw [if_neg]
  unfold valueAt at h
  rw [Option.map_eq_none_iff, List.find?_eq_none] at h
  rw [List.any_eq_true]
  rintro ⟨x, hx, e⟩
  exact h x hx e
theorem leaf_depth (l : Leaf) : l.key.depth = 0 := by cases l <;> rfl
theorem Paired.snoc {α β : Type} {F : α → β → Prop} {a : α} {b : β} (r : F a b) : ∀ {l : List α} {m : List β}, Paired F l m → Paired F (l ++ [a]) (m ++ [b])
  | _, _, .nil => .cons r .nil
  | _, _, .cons x y => .cons x (Paired.snoc r y)
theorem Paired.comp {α β γ : Type} {F : α → β → Prop} {G : β → γ → Prop} {M : α → γ → Prop} (f : ∀ a b c, F a b → G b c → M a c) : ∀ {l : List α} {m : List β} {n : List γ}, Paired F l m → Paired G m n → Paired M l n
  | _, _, _, .nil, .nil => .nil
  | _, _, _, .cons x y, .cons u v => .cons (f _ _ _ x u) (Paired.comp f y v)
theorem leaf_up {xs : List DaX} {kvs : List (Leaf × Value)} {ds : List (D × D)} (a : Paired (fun (x : DaX) (y : Leaf × Value) => x.1 = y.1.key ∧ Leaf.isOf y.1 x.2.1 = true ∧ x.2.2 = y.2) xs kvs)
    (b : Paired (fun (y : Leaf × Value) (p : D × D) => lf p.1 = some y.1 ∧ ∃ v, RelV v y.2 ∧ Rp K O H v p.2) kvs ds) : Paired (DaR K O H) xs ds :=
  Paired.comp (fun x y p e f => {
    k := by rw [(lf_nk f.1).1, e.1]
    dp := by rw [e.1, leaf_depth]; omega
    u := fun t => by rw [(lf_nk f.1).2] at t; cases t
    l := fun l q => by rw [f.1] at q; cases q; exact e.2.1
    v := by obtain ⟨v, r, q⟩ := f.2; exact ⟨v, by rw [e.2.2]; exact r, q⟩ }) a b
/-- a key fits to those that stand -/
structure Fit (K : PySem.W.Frag) (O : Addr → Prop) (H : Hp) (ds : List (D × D)) (kd : D) (q : NestedKey) (v : V) : Prop where
  k : nk kd = some q
  dp : q.depth ≤ 8
  t : ∀ p ∈ ds, isTupD p.1 = isTupD kd
  r : Rp K O H v kd
variable {X : Cx} {pins : List (Addr × Obj)} {σ : L2.St} {s : Shared} {a : Addr} {xs : List DaX} {ds : List (D × D)} {kd d1 : D} {q : NestedKey} {v : V} {u r : Value} {E : Value → Shared → Prop} {Q : Value → Shared → Prop}
theorem Fit.ref (f : Fit K O H ds kd q v) (t : isTupD kd = true) : ∃ b, v = .ref b := by
  obtain ⟨_, _, _, r⟩ := f
  cases kd <;> first | (cases t; done) | exact r.isRef
theorem da_get (hu : X.A.units + 16 < cLine) (I : L2.Inv X pins σ H s) (e : H a = some (.ext (RawD X.w a xs))) (rs : Paired (DaR K O H) xs ds) (f : Fit K O H ds kd q v) (ru : RelV v u) (hv : valA ds q = some d1)
    (h : ∀ v1 w' s', L2.Inv X pins σ H s' → RelV v1 w' → Rp K O H v1 d1 → Q w' s') : s.TypeIs (.ref a) "dict" ∧ wpAny (model X.prog X.w) X.A (getItem (.ref a) u) Q E s := by
  cases t : isTupD kd with
  | true =>
    obtain ⟨b, rfl⟩ := f.ref t
    obtain rfl := (show u = .ref b from ru)
    obtain ⟨_, ys, rfl, hm⟩ := da_tup I.hok e rs fun p hp => (f.t p hp).trans t
    rcases val_tup (q := q) rs with ⟨z, _⟩ | ⟨d, p, v1, z1, z2, z3, z4⟩
    · rw [hv] at z; cases z
    · rw [hv] at z1; cases z1
      exact ⟨hm.typeIs, wpAny_getItem_heap (knd := nestedKind X.prog X.w) (by show X.A.units + 1 + 8 < cLine; omega) ⟨nis I.hok kd _ _ _ f.r f.k ru, f.dp⟩ hm z2 (h v1 _ _ (I.tok _) z3 z4)⟩
  | false =>
    obtain ⟨l, e1, rfl⟩ := lf_of f.k t
    obtain ⟨_, kvs, rk, hm⟩ := da_leaf I.hok e rs fun p hp => (f.t p hp).trans t
    rcases val_leaf (l := l) rk with ⟨z, _⟩ | ⟨d, p, v1, z1, z2, z3, z4⟩
    · rw [hv] at z; cases z
    · rw [hv] at z1; cases z1
      exact ⟨hm.typeIs, wpAny_getItem_of (knd := leafKind X.prog X.w) (lf_is e1 f.r ru) hm.mapOf z2 (h v1 _ _ (I.tok _) z3 z4)⟩
theorem da_setd {dd : D} {y : V} (hu : X.A.units + 16 < cLine) (I : L2.Inv X pins σ H s) (e : H a = some (.ext (RawD X.w a xs))) (rs : Paired (DaR K O H) xs ds) (f : Fit K O H ds kd q v) (ru : RelV v u) (rd : RelV y r) (rp : Rp K O H y dd) (hl : ds.length < sizeLine)
    (h1 : ∀ v1 d1 w' s', valA ds q = some d1 → L2.Inv X pins σ H s' → RelV v1 w' → Q w' s')
    (h2 : valA ds q = none → ∀ s' xs', L2.Inv X pins σ (upd H a (.ext (RawD X.w a xs'))) s' → Paired (DaR K O H) xs' (ds ++ [(kd, dd)]) → Q r s') : wpAny (model X.prog X.w) X.A (call (.builtin "dict.setdefault") [.ref a, u, r]) Q E s := by
  have hlen : xs.length = ds.length := Paired.length rs
  cases t : isTupD kd with
  | true =>
    obtain ⟨b, rfl⟩ := f.ref t
    obtain rfl := (show u = .ref b from ru)
    obtain ⟨hs, ys, rfl, hm⟩ := da_tup I.hok e rs fun p hp => (f.t p hp).trans t
    refine call_setdefault_heap (knd := nestedKind X.prog X.w) (hsz := by rw [List.length_map] at hlen; omega) (by show X.A.units + 1 + 8 < cLine; omega) ⟨nis I.hok kd _ _ _ f.r f.k ru, f.dp⟩ hs hm (fun p hp => ?_) fun hn h' hm' sb => ?_
    · rcases val_tup (q := q) rs with ⟨_, z⟩ | ⟨d, p, v1, z1, z2, z3, z4⟩
      · rw [hp] at z; cases z
      · rw [hp] at z2; cases z2
        exact h1 v1 d _ _ z1 (I.tok _) z3
    · rcases val_tup (q := q) rs with ⟨z, _⟩ | ⟨d, p, v1, z1, z2, z3, z4⟩
      · have rw' := raw_tup hs hm'
        rw [storedH_new hn, List.map_append] at rw'
        have he : ∃ o, h'.get? a = some o := let ⟨_, o, _, _, z, _⟩ := rw'; ⟨o, z⟩
        refine h2 z _ _ (I.write (e := a) (by rw [e]; exact True.intro) (.inl rfl) (fun b u hb hu => (sb.2 b hb).trans hu) he (raw_ok rw')) (Paired.snoc ?_ rs)
        exact ⟨f.k, f.dp, fun _ => ⟨_, ru, f.r⟩, (fun l z => by rw [(lf_nk z).2] at t; cases t), ⟨y, rd, rp⟩⟩
      · rw [hn] at z2; cases z2
  | false =>
    obtain ⟨l, e1, rfl⟩ := lf_of f.k t
    obtain ⟨hs, kvs, rk, hm⟩ := da_leaf I.hok e rs fun p hp => (f.t p hp).trans t
    have hk : kvs.length = ds.length := Paired.length rk
    refine call_meetsIn PySem.F.slot_dict_setdefault hm.typeIs PySem.F.entry_dict_setdefault (PySem.F.args_dict_setdefault_3 _ _ _) (kt_meets_setdefault (leafKind X.prog X.w) a (lf_is e1 f.r ru) hs r) ⟨kvs, hm, by omega, fun p hp => ?_, fun hn h' hm' sb => ?_⟩
    · rcases val_leaf (l := l) rk with ⟨_, z⟩ | ⟨d, p, v1, z1, z2, z3, z4⟩
      · rw [hp] at z; cases z
      · rw [hp] at z2; cases z2
        exact h1 v1 d _ _ z1 (I.tok _) z3
    · rcases val_leaf (l := l) rk with ⟨z, _⟩ | ⟨d, p, v1, z1, z2, z3, z4⟩
      · rw [stored_new' hn] at hm'
        obtain ⟨xs', rw', px⟩ := raw_leaf hs hm'
        have he : ∃ o, h'.get? a = some o := let ⟨_, o, _, _, z, _⟩ := rw'; ⟨o, z⟩
        exact h2 z _ _ (I.write (e := a) (t' := s.toks + 1) (by rw [e]; exact True.intro) (.inl rfl) (fun b u hb hu => (sb.2 b hb).trans hu) he (raw_ok rw')) (leaf_up px (Paired.snoc ⟨e1, y, rd, rp⟩ rk))
      · rw [hn] at z2; cases z2
/-- len(numbers) -/
def rLenA (w : World) : List V → Hp → VK → Prop := fun vs H Q => ∃ (p : Addr) (K : PySem.W.Frag) (O : Addr → Prop) (xs : List DaX) (ds : List (D × D)) (b : Bool), vs = [.ref p] ∧ H p = some (.ext (RawD w p xs)) ∧ Paired (DaR K O H) xs ds ∧ (∀ p ∈ ds, isTupD p.1 = b) ∧ ds.length < sizeLine ∧ Q (.int ((ds.length : Nat) : Int)) H
theorem cr_lenA : CallR X (.builtin "len") (rLenA X.w) := by
  intro pins s σ H vs us Q I r h
  obtain ⟨p, K, O, xs, ds, b, rfl, hp, rs, ht, hl, k⟩ := h
  obtain ⟨u, rfl, rx⟩ := vals1 r
  obtain rfl : u = .ref p := rx
  have hsz := sizeLine_eq
  cases b with
  | true =>
    obtain ⟨hs, ys, rfl, hm⟩ := da_tup I.hok hp rs ht
    have e : ys.length = ds.length := by rw [← List.length_map (f := upT)]; exact Paired.length rs
    refine call_len_dictH hs hm (by omega) ?_
    rw [e]
    exact ⟨.int ((ds.length : Nat) : Int), H, I.tok _, ⟨_, rfl⟩, k⟩
  | false =>
    obtain ⟨hs, kvs, rk, hm⟩ := da_leaf I.hok hp rs ht
    have e : kvs.length = ds.length := Paired.length rk
    refine call_len_dict hs hm (by omega) ?_
    rw [e]
    exact ⟨.int ((ds.length : Nat) : Int), H, I.tok _, ⟨_, rfl⟩, k⟩
end
/-! ### statements and expressions -/
def isDa : FSl → Bool
  | .da _ => true
  | _ => false
def xNewA : FX := fun _ x => some (.da [], x)
/-- d.setdefault(k, len(d)) -/
def sSetA (i : Nat) (fk : FE) : FS := fun env x => match fk env x with
  | some (k, x1) => match env[i]? with
    | some (.da ds) => match nk k with
      | some q => if q.depth ≤ 8 ∧ (∀ p ∈ ds, isTupD p.1 = isTupD k) ∧ ds.length < maxLen ∧ (∀ s ∈ env.set i .no, isDa s = false) then
          match valA ds q with
          | some _ => some (.nx env, x1)
          | none => some (.nx (env.set i (.da (ds ++ [(k, .int ds.length)]))), x1)
        else none
      | none => none
    | _ => none
  | none => none
def fAtA (i : Nat) (fk : FE) : FE := fun env x => match fk env x with
  | some (k, x1) => match env[i]? with
    | some (.da ds) => match nk k with
      | some q => if q.depth ≤ 8 ∧ (∀ p ∈ ds, isTupD p.1 = isTupD k) then
          match valA ds q with
          | some d => some (d, x1)
          | none => none
        else none
      | none => none
    | _ => none
  | none => none
theorem raw_new {w : World} (h : Heap) (hb : sysModules < h.objs.size) : RawD w h.objs.size [] (h.push { cls := .type "dict", data := .dict #[] }) :=
  ⟨by simpa using Nat.ne_of_gt hb, _, #[], 0, Heap.get?_push_size _ rfl, ⟨rfl, rfl, rfl⟩, rfl, rfl, List.nodup_nil⟩
section
variable {X : Cx} {b e : Expr} {fk : FE} {pos : Pos}
def tDNewA (w : World) : TE := fun _ H Q => ∀ p, H p = none → Q (.ref p) (upd H p (.ext (RawD w p [])))
theorem pe_dnewA : PE X (.Dict [] [] pos) (tDNewA X.w) := ⟨fun pins s σ H Q I h =>
  wpAny_Dict_empty ⟨.ref s.heap.objs.size, _, I.laid (a := s.heap.objs.size) (o := .ext (RawD X.w s.heap.objs.size [])) (t' := s.toks) (fun _ _ q => Heap.get?_push_of_some _ q) (Nat.le_refl _) (raw_ok (raw_new s.heap I.big)), rfl, h _ (I.hok.fresh (Nat.le_refl _))⟩⟩
theorem notC_raw {w : World} {a : Addr} {xs : List DaX} : ¬ IsC (.ext (RawD w a xs)) := not_code fun h R => by
  obtain ⟨_, o, es, ep, ho, _, hd, _⟩ := R
  exact ⟨a, o, ho, fun vs z => by rw [z] at hd; cases hd⟩
theorem sx_dA : SX X (.Dict [] [] pos) xNewA := by
  refine ⟨PEw pe_dnewA fun σ H Q h => ?_⟩
  obtain ⟨g, O, env, x, d, x', S, e, k⟩ := h
  cases e
  intro p hp
  have n1 := S.newp hp
  exact k _ _ _ (S.own (o := .ext (RawD X.w p [])) hp notC_raw) (.of (same_upd hp)) (wid_add hp) (fun a z => .inl z) (.da (.inr rfl) n1.1 n1.2 (by rw [S.ww]; exact ⟨[], upd_same, .nil⟩)) fun d z => by cases z
/-- an owned dict with keys of any kind changes -/
theorem FSt.putA {ω : World} {K : PySem.W.Frag} {g : FG} {O : Addr → Prop} {σ : L2.St} {H : Hp} {env : FEn} {x : FRow} (S : FSt ω K g O σ H env x) {i : Nat} {a : Addr} {ds ds' : List (D × D)} {o : HO} (h1 : env[i]? = some (.da ds)) (h2 : σ[i]? = some (some (.ref a))) (mu : MutC (some o)) (only : ∀ s ∈ env.set i .no, isDa s = false) (nw : DaAt K O (upd H a o) a ω ds') :
    FSt ω K g O σ (upd H a o) (env.set i (.da ds')) x := by
  rw [← S.ww] at nw
  have q := S.sl i _ _ h2 h1
  obtain ⟨oa, noa, nr, xs0, ha, _⟩ : O a ∧ ¬ g.O0 a ∧ g.R ≠ some a ∧ DaAt K O H a g.w ds := by
    cases q with
    | da p q r s => exact ⟨p, q, r, s⟩
  have n0 : g.H0 a = none := by
    rcases S.new a oa with z | z
    · exact absurd z noa
    · exact z
  have kp : Keep O H (upd H a o) := fun b u n e _ => by
    rw [upd_ne (show b ≠ a from fun z => n (z ▸ oa))]
    exact e
  refine ⟨S.sub, S.new, fun b hb => ?_, fun b u hR e tn => ?_, fun r e => ?_, by rw [List.length_set]; exact S.len, fun j s e' e1 e2 => ?_, fun j k e e' b c ne e1 e2 e3 e4 => ?_, fun p hp => (S.gh p hp).move kp .refl, tabs_upd S.tb ha rfl notC_raw, S.tk, S.nt0, S.ww⟩
  · by_cases z : b = a
    · subst z; rw [upd_same]; exact mu
    · rw [upd_ne z]; exact S.dom b hb
  · have z : b ≠ a := fun z => by rw [z, n0] at e; cases e
    rw [upd_ne z]
    exact S.le b u hR e tn
  · obtain ⟨q1, q2, a0, q3, q4⟩ := S.row r e
    refine ⟨q1, q2, a0, ?_, ?_⟩
    · rw [upd_ne (show r ≠ a from fun z => nr (z ▸ e))]; exact q3
    · rcases q4 with ⟨u, q4⟩ | q4
      · refine .inl ⟨u, ?_⟩
        rw [upd_ne (show a0 ≠ a from fun z => by rw [z, ha] at q4; cases q4)]
        exact q4
      · exact .inr q4
  · rcases set_at e2 with ⟨z1, z2⟩ | ⟨z1, z2⟩
    · subst z1
      subst z2
      rw [h2] at e1
      cases e1
      exact .da oa noa nr nw
    · cases S.sl j s e' e1 z2 with
      | no => exact .no _
      | va r => exact .va (r.move kp .refl)
      | @ow b d2 p q r t =>
        have nb : b ≠ a := fun z => by
          subst z
          cases d2 <;> (obtain ⟨_, e0, _⟩ := t; rw [ha] at e0; cases e0)
        exact .ow p q r (t.move (fun u eu _ => by rw [upd_ne nb]; exact eu) kp .refl)
      | rw e => exact .rw e
      | @da b ds2 p q r t =>
        have := only (.da ds2) (by
          refine List.mem_of_getElem? (i := j) ?_
          rw [List.getElem?_set_ne z1]; exact z2)
        cases this
      | fn n e r => exact .fn n (kp _ _ n e rfl) fun p hp => (r p hp).move kp .refl
  · have at1 : ∀ {j : Nat} {d2 : OwD}, (env.set i (.da ds'))[j]? = some (.ow d2) → env[j]? = some (.ow d2) := fun {j d2} z => by
      rcases set_at z with ⟨z1, z2⟩ | ⟨z1, z2⟩
      · cases z2
      · exact z2
    exact S.dis j k _ _ b c ne (at1 e1) (at1 e2) e3 e4
theorem se_atA {i : Nat} {n : Str} {p0 : Pos} (hu : X.A.units + 16 < cLine) (hb : SE X b fk) (hs : NoSl b := by exact fun _ _ => rfl)
    (hN : X.N[i]? = some n := by rfl) (hvis : Vis X.env.scope n := by first | exact Or.inl rfl | exact Or.inr (Or.inl rfl) | exact Or.inr (Or.inr rfl)) (hd : (n == ("__debug__" : Str)) = false := by decide)
    (hcd : (n == ("__classdict__" : Str)) = false := by decide) : SE X (.Subscript (.Name n p0) b pos) (fAtA i fk) := by
  refine ⟨⟨fun pins s σ H Q I h => ?_⟩⟩
  obtain ⟨g, O, env, x, d, x', S, e, k⟩ := h
  unfold fAtA at e
  split at e
  · rename_i kd x1 e1
    split at e
    · rename_i ds e2
      split at e
      · rename_i q e3
        split at e
        · rename_i c
          obtain ⟨c1, c2⟩ := c
          split at e
          · rename_i d1 e4
            cases e
            obtain ⟨sv, e5, q5⟩ := S.at e2
            cases q5 with
            | @da a _ oa q6 q7 wt =>
              refine subD_of PySem.F.slot_dict_getitem.lookup hs (thn ((pe_var hN hvis hd hcd).run pins s σ H (fun v H1 => v = .ref a ∧ H1 = H) I ⟨_, e5, rfl, rfl⟩) fun u s1 ⟨v, H1, I1, rv, ev, eh⟩ => ?_)
              subst ev
              subst eh
              obtain rfl := (show u = .ref a from rv)
              refine thn (hb.out.run pins s1 σ _ (fun z H2 => FSt X.w X.K g O σ H2 env x' ∧ Le g H1 H2 ∧ Rp X.K O H2 z kd) I1 ⟨g, O, env, x, kd, _, S, e1, fun z H2 S2 l2 r2 => ⟨S2, l2, r2⟩⟩) fun iv s2 ⟨z, H2, I2, rz, S2, l2, r2⟩ => ?_
              obtain ⟨sv2, e6, q8⟩ := S2.at e2
              rw [e5] at e6
              cases e6
              cases q8 with
              | da _ _ _ wt2 =>
                rw [S.ww] at wt2
                obtain ⟨xs, hx, rs⟩ := wt2
                exact da_get hu I2 hx rs ⟨e3, c1, c2, r2⟩ rz e4 fun v1 w1 s3 I3 r3 r4 => ⟨v1, H2, I3, r3, k v1 H2 S2 l2 r4⟩
          · cases e
        · cases e
      · cases e
    · cases e
  · cases e
/-- n.setdefault(k, len(n)) -/
theorem ss_setA {i : Nat} {n : Str} {p0 apos p1 p2 cp1 cpos : Pos} (hu : X.A.units + 16 < cLine) (hb : SE X b fk) (hg : Gl X "len") (hm : X.mg "len" = none) (hv : bootBuiltins "len" = some (.builtin "len"))
    (hs : swapsWith (.Call (.Attribute (.Name n p0) "setdefault" apos) [b, .Call (.Name "len" p1) [.Name n p2] [] cp1] [] cpos) none pos.line X.env = pure false := by rfl)
    (hbase : attributeBase (.Name n p0) "setdefault" X.env (eval (.Name n p0) X.env) = eval (.Name n p0) X.env := by rfl)
    (hfew : ((backTo cpos (starEach [b, .Call (.Name "len" p1) [.Name n p2] [] cp1] X.env)).all (fun x => !x.1) && (backToKw cpos (keywordEach [] X.env)).all (fun x => x.1.isSome)
      && decide (([b, .Call (.Name "len" p1) [.Name n p2] [] cp1] : List Expr).length + ([] : List Keyword).length + (if ([] : List Keyword).isEmpty then 0 else 1) < 30)) = true := by rfl)
    (hline : (apos.endLine == cpos.line) = true := by rfl)
    (htrees : backTo cpos (starEach [b, .Call (.Name "len" p1) [.Name n p2] [] cp1] X.env) = [(false, eval b X.env), (false, eval (.Call (.Name "len" p1) [.Name n p2] [] cp1) X.env)] := by rfl)
    (hss : starEach ([.Name n p2] : List Expr) X.env = (false, eval (.Name n p2) X.env) :: starEach [] X.env := by rfl) (hplain : (backTo cp1 (starEach [] X.env)).any (·.1) = false := by rfl)
    (hN : X.N[i]? = some n := by rfl) (hvis : Vis X.env.scope n := by first | exact Or.inl rfl | exact Or.inr (Or.inl rfl) | exact Or.inr (Or.inr rfl)) (hd : (n == ("__debug__" : Str)) = false := by decide)
    (hcd : (n == ("__classdict__" : Str)) = false := by decide) : SS X (.Expr (.Call (.Attribute (.Name n p0) "setdefault" apos) [b, .Call (.Name "len" p1) [.Name n p2] [] cp1] [] cpos) pos) (sSetA i fk) := by
  refine ⟨⟨fun pins s σ H Dn I h => ?_⟩⟩
  obtain ⟨g, O, env, x, r, x', S, e, kk⟩ := h
  unfold sSetA at e
  split at e
  · rename_i kd x1 e1
    split at e
    · rename_i ds e2
      split at e
      · rename_i q e3
        split at e
        · rename_i c
          obtain ⟨c1, c2, c3, c4⟩ := c
          have hl : ds.length < sizeLine := maxLen_lt c3
          obtain ⟨sv, e5, q5⟩ := S.at e2
          cases q5 with
          | @da a _ oa q6 q7 wt =>
            have ev : PE X (.Name n p0) (tVar i) := pe_var hN hvis hd hcd
            have ev2 : PE X (.Name n p2) (tVar i) := pe_var hN hvis hd hcd
            have el := pe_callB (p := p1) (pos := cp1) cr_lenA hg hm hv (pa_cons ev2 pa_nil hss) (by decide) (by decide) hss hplain
            refine wpAny_Expr_any (Q := SP X pins Dn) ?_ I.quiet hs
            refine wpAny_Call_method hbase hfew hline PySem.F.plainAttrs_dict PySem.F.slot_dict_setdefault PySem.F.type_dict_setdefault (thn (ev.run pins s σ H (fun v H1 => v = .ref a ∧ H1 = H) I ⟨_, e5, rfl, rfl⟩) fun u s1 ⟨v, H1, I1, rv, ev, eh⟩ => ?_)
            subst ev
            subst eh
            obtain rfl := (show u = .ref a from rv)
            rw [S.ww] at wt
            have raw : RawD X.w a _ s1.heap := (I1.hok a _ wt.choose_spec.1).1
            obtain ⟨_, ob, _, _, o1, o2, _⟩ := raw
            refine ⟨⟨ob, o1, o2.1⟩, fun b q => by cases q; exact ⟨ob, o1, o2.2.1⟩, ?_⟩
            rw [htrees]
            refine Calls.callWith_builtin rfl (Calls.evalArgs_plain (Calls.spliced_cons (thn (hb.out.run pins s1 σ _ (fun z H2 => FSt X.w X.K g O σ H2 env x1 ∧ Le g H1 H2 ∧ Rp X.K O H2 z kd) I1 ⟨g, O, env, x, kd, _, S, e1, fun z H2 S2 l2 r2 => ⟨S2, l2, r2⟩⟩) fun iv s2 ⟨z, H2, I2, rz, S2, l2, r2⟩ => ?_)))
            obtain ⟨sv2, e6, q8⟩ := S2.at e2
            rw [e5] at e6
            cases e6
            cases q8 with
            | da _ _ _ wt2 =>
              rw [S.ww] at wt2
              obtain ⟨xs, hx, rs⟩ := wt2
              refine Calls.spliced_cons (thn (el.run pins s2 σ H2 (fun v H3 => v = .int ((ds.length : Nat) : Int) ∧ H3 = H2) I2 ⟨_, e5, ⟨a, X.K, O, xs, ds, isTupD kd, rfl, hx, rs, c2, hl, rfl, rfl⟩⟩) fun fv s3 ⟨y, H3, I3, ry, ey, eh⟩ => Calls.spliced_nil ?_)
              subst ey
              subst eh
              refine da_setd hu I3 hx rs ⟨e3, c1, c2, r2⟩ rz ry (.int _) hl (fun v1 d1 w1 s4 hv1 I4 r4 => ?_) fun hn s4 xs' I4 rs4 => ?_
              · rw [hv1] at e
                cases e
                exact ⟨σ, H3, I4, kk O σ H3 S2⟩
              · rw [hn] at e
                cases e
                refine ⟨σ, _, I4, kk O σ _ (S2.putA e2 e5 notC_raw c4 ⟨xs', upd_same, ?_⟩)⟩
                exact L2.Paired.mapP rs4 fun _ _ => DaR.mv fun _ _ r => r.move (keep_own S2 oa) .refl
        · cases e
      · cases e
    · cases e
  · cases e
end
end RT

namespace RT
open PySem PySem.Spec PyProof.Rows L2
theorem hu16 {k : Nat} {A : Around} (r : Room k A) : A.units + 16 < cLine := by
  have := room65 r
  omega
theorem spF_imp {K : PySem.W.Frag} {m m' : List D → Option D} (h : ∀ ds d, m ds = some d → m' ds = some d) {vs : List V} {H : Hp} {Q : VK} {E : XK} (q : spF K m vs H Q E) : spF K m' vs H Q E := by
  obtain ⟨T, O, ds, d, t1, t2, a, b, c, e⟩ := q
  exact ⟨T, O, ds, d, t1, t2, a, b, h _ _ c, e⟩
/-! ### the numbers of marks -/
def keyOk (d : D) : Bool := match nk d with
  | some q => decide (q.depth ≤ 8)
  | none => false
/-- one mark more -/
def tblS (acc : List (D × D)) (d : D) : List (D × D) := match nk d with
  | some q => match valA acc q with
    | some _ => acc
    | none => acc ++ [(d, .int acc.length)]
  | none => acc
def tblK (ds : List D) : List (D × D) := ds.foldl tblS []
def gNumbered : List D → Option D
  | [.list ds] => if ds.length ≤ 1000 ∧ (∀ d ∈ ds, keyOk d = true) ∧ ((∀ d ∈ ds, isTupD d = true) ∨ ∀ d ∈ ds, isTupD d = false) then
      match ds.mapM (fun d => (nk d).bind (valA (tblK ds))) with
      | some rs => some (.list rs)
      | none => none
    else none
  | _ => none
theorem tbl_keys {b : Bool} : ∀ {ds : List D} {acc : List (D × D)}, (∀ d ∈ ds, isTupD d = b) → (∀ p ∈ acc, isTupD p.1 = b) → (∀ p ∈ ds.foldl tblS acc, isTupD p.1 = b) ∧ (ds.foldl tblS acc).length ≤ acc.length + ds.length
  | [], acc, _, h => ⟨h, by simp⟩
  | d :: ds, acc, hd, h => by
    have h1 : (∀ p ∈ tblS acc d, isTupD p.1 = b) ∧ (tblS acc d).length ≤ acc.length + 1 := by
      unfold tblS
      split
      · split
        · exact ⟨h, by omega⟩
        · refine ⟨fun p hp => ?_, by simp⟩
          rcases List.mem_append.mp hp with hp | hp
          · exact h p hp
          · rw [List.mem_singleton] at hp; subst hp; exact hd d List.mem_cons_self
      · exact ⟨h, by omega⟩
    obtain ⟨h2, h3⟩ := tbl_keys (fun e he => hd e (List.mem_cons_of_mem _ he)) h1.1
    exact ⟨h2, by rw [List.foldl_cons, List.length_cons]; omega⟩
theorem num_loop (l : D) {b : Bool} (x : FRow) : ∀ (ds : List D) (acc : List (D × D)) (e2 : FSl), isDa e2 = false → (∀ d ∈ ds, keyOk d = true) → (∀ d ∈ ds, isTupD d = b) → (∀ p ∈ acc, isTupD p.1 = b) → acc.length + ds.length ≤ 1000 →
    ∃ e2', isDa e2' = false ∧ forL (gtName 2) (sSetA 1 (fVar 2)) ds [.va l, .da acc, e2] x = some (.nx [.va l, .da (ds.foldl tblS acc), e2'], x)
  | [], acc, e2, h, _, _, _, _ => ⟨e2, h, rfl⟩
  | d :: ds, acc, e2, h, hk, ht, ha, hl => by
    have kd := hk d List.mem_cons_self
    unfold keyOk at kd
    split at kd
    · rename_i q e
      have dp : q.depth ≤ 8 := of_decide_eq_true kd
      have l1 : acc.length < maxLen := by unfold maxLen; simp only [List.length_cons] at hl; omega
      have only : ∀ s ∈ ([.va l, .da acc, .va d] : FEn).set 1 .no, isDa s = false := fun s hs => by
        simp only [List.set, List.mem_cons, List.not_mem_nil, or_false] at hs
        rcases hs with rfl | rfl | rfl <;> rfl
      have c : q.depth ≤ 8 ∧ (∀ p ∈ acc, isTupD p.1 = isTupD d) ∧ acc.length < maxLen ∧ (∀ s ∈ ([.va l, .da acc, .va d] : FEn).set 1 .no, isDa s = false) :=
        ⟨dp, fun p hp => (ha p hp).trans (ht d List.mem_cons_self).symm, l1, only⟩
      have step : sSetA 1 (fVar 2) [.va l, .da acc, .va d] x = some (.nx [.va l, .da (tblS acc d), .va d], x) := by
        have e0 : fVar 2 [.va l, .da acc, .va d] x = some (d, x) := rfl
        have e1 : ([.va l, .da acc, .va d] : FEn)[1]? = some (.da acc) := rfl
        unfold sSetA tblS
        rw [e0]
        simp only [e1, e]
        rw [if_pos c]
        cases valA acc q <;> rfl
      have tk := (tbl_keys (ds := [d]) (acc := acc) (b := b) (fun e he => by rw [List.mem_singleton] at he; subst he; exact ht _ List.mem_cons_self) ha)
      have tl : (tblS acc d).length ≤ acc.length + 1 := tk.2
      obtain ⟨e2', g1, g2⟩ := num_loop l (b := b) x ds (tblS acc d) (.va d) rfl (fun e he => hk e (List.mem_cons_of_mem _ he)) (fun e he => ht e (List.mem_cons_of_mem _ he)) tk.1 (by simp only [List.length_cons] at hl; omega)
      refine ⟨e2', g1, ?_⟩
      have e3 : gtName 2 d [.va l, .da acc, e2] = some [.va l, .da acc, .va d] := rfl
      rw [forL, e3]
      simp only [step]
      exact g2
    · cases kd
theorem num_comp (l : D) (x : FRow) (acc : List (D × D)) (e2 : FSl) {b : Bool} (ha : ∀ p ∈ acc, isTupD p.1 = b) : ∀ (ds rs : List D), (∀ d ∈ ds, keyOk d = true) → (∀ d ∈ ds, isTupD d = b) → ds.mapM (fun d => (nk d).bind (valA acc)) = some rs →
    compL (gtName 2) tYesF (fAtA 1 (fVar 2)) [.va l, .da acc, e2] ds x = some (rs, x)
  | [], rs, _, _, h => by
    simp at h; subst h; rfl
  | d :: ds, rs, hk, ht, h => by
    rw [List.mapM_cons] at h
    cases h1 : (nk d).bind (valA acc) with
    | none => rw [h1] at h; cases h
    | some r =>
      rw [h1] at h
      cases h2 : ds.mapM (fun d => (nk d).bind (valA acc)) with
      | none => rw [h2] at h; cases h
      | some rs' =>
        rw [h2] at h
        cases h
        have ih := num_comp l x acc e2 ha ds rs' (fun e he => hk e (List.mem_cons_of_mem _ he)) (fun e he => ht e (List.mem_cons_of_mem _ he)) h2
        have kd := hk d List.mem_cons_self
        unfold keyOk at kd
        split at kd
        · rename_i q e
          have dp : q.depth ≤ 8 := of_decide_eq_true kd
          rw [e] at h1
          have h1 : valA acc q = some r := h1
          have c : q.depth ≤ 8 ∧ (∀ p ∈ acc, isTupD p.1 = isTupD d) := ⟨dp, fun p hp => (ha p hp).trans (ht d List.mem_cons_self).symm⟩
          have step : fAtA 1 (fVar 2) [.va l, .da acc, .va d] x = some (r, x) := by
            have e0 : fVar 2 [.va l, .da acc, .va d] x = some (d, x) := rfl
            have e1 : ([.va l, .da acc, .va d] : FEn)[1]? = some (.da acc) := rfl
            unfold fAtA
            rw [e0]
            simp only [e1, e]
            rw [if_pos c]
            simp only [h1]
          have e3 : gtName 2 d [.va l, .da acc, e2] = some [.va l, .da acc, .va d] := rfl
          have e4 : tYesF [.va l, .da acc, .va d] x = some (true, x) := rfl
          rw [compL, e3]
          simp only [e4, step, ih]
        · cases kd
theorem mapM_len {α β : Type} {f : α → Option β} : ∀ {l : List α} {r : List β}, l.mapM f = some r → r.length = l.length
  | [], r, h => by simp at h; subst h; rfl
  | a :: l, r, h => by
    rw [List.mapM_cons] at h
    cases h1 : f a with
    | none => rw [h1] at h; cases h
    | some b =>
      rw [h1] at h
      cases h2 : l.mapM f with
      | none => rw [h2] at h; cases h
      | some r' =>
        rw [h2] at h; cases h
        rw [List.length_cons, List.length_cons, mapM_len h2]
theorem numbered_pure : ∀ ds d, gNumbered ds = some d → mkF 3 1 (sSeq (sSet 1 xNewA)
    (sSeq (sFor (fSeq (fVar 0)) (gtName 2) (sSetA 1 (fVar 2)))
    (sRet (fOfX (xLc (fSeq (fVar 0)) (gtName 2) tYesF (fAtA 1 (fVar 2)) [2]))))) ds = some d := by
  intro dl d h
  unfold gNumbered at h
  split at h
  · rename_i ds
    split at h
    · rename_i c
      obtain ⟨hl, hk, hb⟩ := c
      split at h
      · rename_i rs hr
        cases h
        have ht : ∃ b, ∀ d ∈ ds, isTupD d = b := hb.elim (fun z => ⟨true, z⟩) fun z => ⟨false, z⟩
        obtain ⟨b, ht⟩ := ht
        obtain ⟨e2, g1, g2⟩ := num_loop (.list ds) (b := b) row0 ds [] .no rfl hk ht (fun _ h => nomatch h) (by simpa using hl)
        have tk := (tbl_keys (ds := ds) (acc := []) (b := b) ht (fun _ h => nomatch h)).1
        have g3 := num_comp (.list ds) row0 (tblK ds) .no tk ds rs hk ht hr
        have s0 : startE 3 [.list ds] = [.va (.list ds), .no, .no] := rfl
        have s1 : sSet 1 xNewA [.va (.list ds), .no, .no] row0 = some (.nx [.va (.list ds), .da [], .no], row0) := rfl
        have s2 : sFor (fSeq (fVar 0)) (gtName 2) (sSetA 1 (fVar 2)) [.va (.list ds), .da [], .no] row0 = some (.nx [.va (.list ds), .da (tblK ds), e2], row0) := g2
        have s3 : fOfX (xLc (fSeq (fVar 0)) (gtName 2) tYesF (fAtA 1 (fVar 2)) [2]) [.va (.list ds), .da (tblK ds), e2] row0 = some (.list rs, row0) := by
          have w0 : wipeE [.va (.list ds), .da (tblK ds), e2] [2] = [.va (.list ds), .da (tblK ds), .no] := rfl
          have f0 : fSeq (fVar 0) [.va (.list ds), .da (tblK ds), e2] row0 = some (ds, row0) := rfl
          have ml : rs.length < maxLen := by rw [mapM_len hr]; unfold maxLen; omega
          unfold fOfX xLc
          simp only [f0, w0, g3]
          rw [if_pos ml]; rfl
        unfold mkF
        rw [if_pos (show [D.list ds].length = 1 from rfl), s0]
        unfold sSeq
        simp only [s1, s2]
        unfold sRet
        rw [s3]
      · cases h
    · cases h
  · cases h
end RT

namespace Lw
open PySem PySem.Spec PyProof.Rows L2 RT
def b_law_marks : FS :=
    sSeq (sSet 1 (xVal (fBin gMul (fLst (aCons (fC (.int 0)) aNil)) (fCall gLen (aCons (fBor 0) aNil)))))
    (sSeq (sFor (fRg1 (fBin gAdd (fCall gLen (aCons (fBor 0) aNil)) (fC (.int 1)))) (gtName 2) (sSeq (sSet 3 (xVal (fOfX (xLc (fSeq (fVar 0)) (gtName 4) tYesF (fTup (aCons (fBin gAt (fBor 4) (fC (.int 0))) (aCons (fCall gTupOf (aCons (fOfX (xLc (fSeq (fBin gAt (fBor 4) (fC (.int 1)))) (gtName 6) tYesF (fBin gAdd (fSl (fBor 6) oNone (oSome (fC (.int 3)))) (fTup (aCons (fBin gAt (fBor 1) (fBin gAt (fBor 6) (fC (.int 3)))) aNil))) [6])) aNil)) aNil))) [4]))))
    (sSet 1 (xVal (fOfX (xLc (fSeq (fVar 3)) (gtName 5) tYesF (fIndex (fBor 3) (fBor 5)) [5]))))))
    (sRet (fVar 1)))
def m_law_marks : List D → Option D := mkF 7 1 b_law_marks
def b_law_least : FS :=
    sSeq (sSet 1 (xVal (fCall m_law_marks (aCons (fVar 0) aNil))))
    (sSeq (sSet 3 ((fun f => xVal (fOfX f)) (xLc (fSeq (fVar 0)) (gtName 8) tYesF (fTup (aCons (fBin gAt (fBor 8) (fC (.int 0))) (aCons (fCall gTupOf (aCons (fOfX (xLc (fSeq (fBin gAt (fBor 8) (fC (.int 1)))) (gtName 2) tYesF (fBin gAdd (fSl (fBor 2) oNone (oSome (fC (.int 3)))) (fTup (aCons (fBin gAt (fBor 1) (fBin gAt (fBor 2) (fC (.int 3)))) aNil))) [2])) aNil)) aNil))) [8])))
    (sSeq (sPars [4, 5] (xsCons (xVal (fLst (aCons (fBin gAt (fBor 1) (fC (.int 0))) aNil))) (xsCons (xVal (fC (.int 0))) xsNil)))
    (sSeq (whL (tAndF (fTst (fBin gLtX (fBor 5) (fCall gLen (aCons (fBor 4) aNil)))) (fTst (fBin gLtX (fBor 5) (fC (.int 70))))) (sSeq (sFor (fSeq (fBin gAt (fBin gAt (fBor 3) (fBin gAt (fBor 4) (fBor 5))) (fC (.int 1)))) (gtName 2) (sSet 4 (xVal (fBin gAdd (fBor 4) (fBin gMul (fLst (aCons (fBin gAt (fBor 2) (fC (.int 3))) aNil)) (fCall gInt (aCons (fBin gNotInA (fBin gAt (fBor 2) (fC (.int 3))) (fBor 4)) aNil)))))))
    (sSet 5 (xVal (fBin gAdd (fBor 5) (fC (.int 1)))))) 1000)
    (sSeq (sSet 6 (xLst aNil))
    (sSeq (sFor (fSeq (fVar 4)) (gtName 7) (sApp 6 (fTup (aCons (fBin gAt (fBin gAt (fBor 3) (fBor 7)) (fC (.int 0))) (aCons (fCall gTupOf (aCons (fOfX (xLc (fSeq (fBin gAt (fBin gAt (fBor 3) (fBor 7)) (fC (.int 1)))) (gtName 2) tYesF (fBin gAdd (fSl (fBor 2) oNone (oSome (fC (.int 3)))) (fTup (aCons (fIndex (fBor 4) (fBin gAt (fBor 2) (fC (.int 3)))) aNil))) [2])) aNil)) aNil)))))
    (sRet (fCall gTupOf (aCons (fBor 6) aNil))))))))
def m_law_least : List D → Option D := mkF 9 1 b_law_least
def b_law_taken : FS :=
    sSeq (sIf (fTst (fBin (gI yes2 fun i j => .bool (decide (j < i))) (fRow 0 3) (fC (.int 0)))) (sSeq (sSet 2 (xVal (fBin gModI (fCall gInt (aCons (fRow 0 3) aNil)) (fBor 1))))
    (sSeq (sRow 0 3 (fBin gDivI (fRow 0 3) (fBor 1)))
    (sRet (fVar 2)))) sNil)
    (sSeq (sRow 0 1 (fBin gAdd (fRow 0 1) (fC (.int 1))))
    (sSeq (sIf (fTst (fBin (gI yes2 fun i j => .bool (decide (j < i))) (fRow 0 1) (fRowLen 0))) (sSeq (sRow 0 2 (fBin gModI (fCall gInt (aCons (fBin gAdd (fBin gMul (fRow 0 2) (fC (.int 48271))) (fC (.int 11))) aNil)) (fC (.int 2147483647))))
    (sRet (fBin gModI (fCall gInt (aCons (fBin gDivI (fRow 0 2) (fC (.int 7))) aNil)) (fBor 1)))) sNil)
    (sSeq (sSet 3 (xVal (fRowAt 0 (fBin gSubI (fRow 0 1) (fC (.int 1))))))
    (sSeq (sRow 0 2 (fBin gModI (fCall gInt (aCons (fBin gAdd (fBin gAdd (fBin gMul (fRow 0 2) (fC (.int 48271))) (fBor 3)) (fC (.int 11))) aNil)) (fC (.int 2147483647))))
    (sSeq (sIf (fTst (fBin (gI yes2 fun i j => .bool (decide (j ≤ i))) (fBor 3) (fBin gPowI (fC (.int 10)) (fC (.int 18))))) (sRow 0 3 (fBin gDivI (fBor 3) (fBor 1))) sNil)
    (sRet (fBin gModI (fCall gInt (aCons (fBor 3) aNil)) (fBor 1))))))))
def m_law_taken : List D → FRow → Option (D × FRow) := mkR 3 1 b_law_taken
def b_law_pick : FS :=
    sRet (fBin gAt (fBor 1) (fCallR 0 m_law_taken (aCons (fCall gLen (aCons (fBor 1) aNil)) aNil)))
def m_law_pick : List D → FRow → Option (D × FRow) := mkR 1 1 b_law_pick
def b_law_state : FS :=
    sSeq (sPars [3, 4] (xsCons (xVal (fCallR 0 m_law_pick (aCons (fLst (aCons (fC (.str (Str.ofString "hear"))) (aCons (fC (.str (Str.ofString "say"))) aNil))) aNil))) (xsCons (xNew (.dt [])) xsNil)))
    (sSeq (sFor (fRg1 (fCallR 0 m_law_taken (aCons (fC (.int 3)) aNil))) (gtName 5) (sSeq (sSet 3 (xVal (fIf (fTru (fBor 2)) (fVar 3) (fCallR 0 m_law_pick (aCons (fLst (aCons (fC (.str (Str.ofString "hear"))) (aCons (fC (.str (Str.ofString "say"))) aNil))) aNil)))))
    (sDPut 4 (fTup (aCons (fVar 3) (aCons (fBin gAdd (fC (.int 1)) (fCallR 0 m_law_taken (aCons (fC (.int 2)) aNil))) (aCons (fCallR 0 m_law_taken (aCons (fC (.int 2)) aNil)) aNil)))) (fCallR 0 m_law_taken (aCons (fVar 1) aNil)))))
    (sSeq (sSet 6 (xVal (fCall gTupOf (aCons (fCall gSortX (aCons (fOfX (xLc (fSeq (fCall gListOf (aCons (fBor 4) aNil))) (gtName 7) tYesF (fBin gAdd (fBor 7) (fTup (aCons (fBin gAt (fBor 4) (fBor 7)) aNil))) [7])) aNil)) aNil))))
    (sSeq (sIf (fTst (fBin gEq (fBor 6) (fTup aNil))) (sRet (fTup (aCons (fOr (fVar 2) (fBin gEq (fCallR 0 m_law_taken (aCons (fC (.int 2)) aNil)) (fC (.int 0)))) (aCons (fVar 6) aNil)))) sNil)
    (sRet (fTup (aCons (fIf (fTru (fBor 2)) (fAnd (fBin gEq (fBor 3) (fC (.str (Str.ofString "hear")))) (fBin gEq (fCallR 0 m_law_taken (aCons (fC (.int 3)) aNil)) (fC (.int 0)))) (fBin gEq (fCallR 0 m_law_taken (aCons (fC (.int 3)) aNil)) (fC (.int 0)))) (aCons (fVar 6) aNil)))))))
def m_law_state : List D → FRow → Option (D × FRow) := mkR 7 2 b_law_state
def b_law_part : FS :=
    sSeq (sSet 3 (xVal (fBin gAdd (fC (.int 1)) (fCallR 0 m_law_taken (aCons (fVar 1) aNil)))))
    (sRet (fCall gTupOf (aCons (fOfX (xLc (fRg1 (fVar 3)) (gtName 4) tYesF (fCallR 0 m_law_state (aCons (fVar 3) (aCons (fVar 2) aNil))) [4])) aNil)))
def m_law_part : List D → FRow → Option (D × FRow) := mkR 4 2 b_law_part
def b_has_items : FS :=
    sRet (fAnd (fIsi .tuple (fBor 0)) (fChain (gI yes2 fun i j => .bool (decide (i ≤ j))) (gI yes2 fun i j => .bool (decide (i ≤ j))) (fBor 1) (fCall gLen (aCons (fBor 0) aNil)) (fBor 2)))
def m_has_items : List D → Option D := mkF 3 3 b_has_items
def b_is_rising : FS :=
    sRet (fCall gAll (aCons (fOfX (xLc (fRg1 (fBin gSubI (fCall gLen (aCons (fBor 0) aNil)) (fC (.int 1)))) (gtName 1) tYesF (fBin gLtX (fBin gAt (fBor 0) (fBor 1)) (fBin gAt (fBor 0) (fBin gAdd (fBor 1) (fC (.int 1))))) [1])) aNil))
def m_is_rising : List D → Option D := mkF 2 1 b_is_rising
def b_is_number : FS :=
    sRet (fAnd (fIsi .int (fBor 0)) (fAnd (fNot (fIsi .bool (fBor 0))) (fChain (gI yes2 fun i j => .bool (decide (i ≤ j))) (gI yes2 fun i j => .bool (decide (i ≤ j))) (fBor 1) (fBor 0) (fBor 2))))
def m_is_number : List D → Option D := mkF 3 3 b_is_number
def b_is_event : FS :=
    sSeq (sIf (tNotF (fTru (fCall m_has_items (aCons (fVar 0) (aCons (fC (.int 3)) (aCons (fC (.int 3)) aNil)))))) (sRet (fC (.bool false))) sNil)
    (sSeq (sUnp (fVar 0) (gtTup 3 (gtCons (gtName 1) (gtCons (gtName 2) (gtCons (gtName 3) gtNil)))))
    (sRet (fAnd (fInS [Str.ofString "hear", Str.ofString "say"] (fBor 1)) (fAnd (fCall m_is_number (aCons (fVar 2) (aCons (fC (.int 0)) (aCons (fC (.int 3)) aNil)))) (fCall m_is_number (aCons (fVar 3) (aCons (fC (.int 0)) (aCons (fC (.int 5)) aNil))))))))
def m_is_event : List D → Option D := mkF 4 1 b_is_event
def b_is_step : FS :=
    sRet (fAnd (fCall m_has_items (aCons (fVar 0) (aCons (fC (.int 4)) (aCons (fC (.int 4)) aNil)))) (fAnd (fCall m_is_event (aCons (fSl (fBor 0) oNone (oSome (fC (.int 3)))) aNil)) (fCall m_is_number (aCons (fBin gAt (fBor 0) (fC (.int 3))) (aCons (fC (.int 0)) (aCons (fBin gSubI (fBor 1) (fC (.int 1))) aNil))))))
def m_is_step : List D → Option D := mkF 2 2 b_is_step
def b_is_state : FS :=
    sSeq (sIf (tNotF (fTru (fCall m_has_items (aCons (fVar 0) (aCons (fC (.int 2)) (aCons (fC (.int 2)) aNil)))))) (sRet (fC (.bool false))) sNil)
    (sSeq (sUnp (fVar 0) (gtTup 2 (gtCons (gtName 2) (gtCons (gtName 3) gtNil))))
    (sSeq (sIf (tOrF (tNotF (fTru (fIsi .bool (fBor 2)))) (tNotF (fTru (fIsi .tuple (fBor 3))))) (sRet (fC (.bool false))) sNil)
    (sSeq (sIf (tNotF (fTru (fCall gAll (aCons (fOfX (xLc (fSeq (fVar 3)) (gtName 4) tYesF (fCall m_is_step (aCons (fVar 4) (aCons (fVar 1) aNil))) [4])) aNil)))) (sRet (fC (.bool false))) sNil)
    (sRet (fCall m_is_rising (aCons (fOfX (xLc (fSeq (fVar 3)) (gtName 4) tYesF (fSl (fBor 4) oNone (oSome (fC (.int 3)))) [4])) aNil))))))
def m_is_state : List D → Option D := mkF 5 2 b_is_state
def b_check_part : FS :=
    sSeq (sIf (tNotF (fTru (fCall m_has_items (aCons (fVar 0) (aCons (fC (.int 1)) (aCons (fC (.int 255)) aNil)))))) sNo sNil)
    (sFor (fEn (fVar 0)) (gtTup 2 (gtCons (gtName 1) (gtCons (gtName 2) gtNil))) (sIf (tNotF (fTru (fCall m_is_state (aCons (fVar 2) (aCons (fCall gLen (aCons (fBor 0) aNil)) aNil))))) sNo sNil))
def m_check_part : List D → Option D := mkF 3 1 b_check_part
def m_numbered : List D → Option D := gNumbered
def b_renamed_state : FS :=
    sSeq (sUnp (fVar 0) (gtTup 2 (gtCons (gtName 2) (gtCons (gtName 3) gtNil))))
    (sRet (fTup (aCons (fVar 2) (aCons (fCall gTupOf (aCons (fOfX (xLc (fSeq (fVar 3)) (gtTup 4 (gtCons (gtName 4) (gtCons (gtName 5) (gtCons (gtName 6) (gtCons (gtName 7) gtNil))))) tYesF (fTup (aCons (fVar 4) (aCons (fVar 5) (aCons (fVar 6) (aCons (fBin gAt (fBor 1) (fBor 7)) aNil))))) [4, 5, 6, 7])) aNil)) aNil))))
def m_renamed_state : List D → Option D := mkF 8 2 b_renamed_state
def b_alike_groups : FS :=
    sSeq (sSet 1 (xVal (fCall m_numbered (aCons (fOfX (xLc (fSeq (fVar 0)) (gtTup 2 (gtCons (gtName 3) (gtCons (gtName 4) gtNil))) tYesF (fVar 3) [3, 4])) aNil))))
    (whL (fTru (fC (.bool true))) (sSeq (sSet 2 (xVal (fCall m_numbered (aCons (fOfX (xLc (fRg1 (fCall gLen (aCons (fBor 0) aNil))) (gtName 5) tYesF (fTup (aCons (fBin gAt (fBor 1) (fBor 5)) (aCons (fCall m_renamed_state (aCons (fBin gAt (fBor 0) (fBor 5)) (aCons (fVar 1) aNil))) aNil))) [5])) aNil))))
    (sSeq (sIf (fTst (fBin gEq (fCall gMax (aCons (fBor 2) aNil)) (fCall gMax (aCons (fBor 1) aNil)))) (sRet (fVar 1)) sNil)
    (sSet 1 (xVal (fVar 2))))) 1000)
def m_alike_groups : List D → Option D := mkF 6 1 b_alike_groups
def b_coming : FS :=
    sSeq (sSet 2 (xLst (aCons (fVar 1) aNil)))
    (sSeq (sSet 3 (xDict1 (fVar 1) (fC (.bool true))))
    (sSeq (sSet 4 (xVal (fC (.int 0))))
    (sSeq (whL (fTst (fBin gLtX (fBor 4) (fCall gLen (aCons (fBor 2) aNil)))) (sSeq (sSet 5 (xVal (fBin gAt (fBor 2) (fBor 4))))
    (sSeq (sFor (fSeq (fBin gAt (fBor 0) (fBor 5))) (gtTup 2 (gtCons (gtName 6) (gtCons (gtName 7) gtNil))) (sIf (fTst (fBin gNotInA (fBor 7) (fBor 3))) (sSeq (sDPut 3 (fVar 7) (fC (.bool true)))
    (sApp 2 (fVar 7))) sNil))
    (sAug 4 (fC (.int 1))))) 1000)
    (sFrz 2 (sRet (fVar 2))))))
def m_coming : List D → Option D := mkF 8 2 b_coming
def b_new_names : FS :=
    sRet (fOfX (xDc (fEn (fVar 0)) (gtTup 2 (gtCons (gtName 1) (gtCons (gtName 2) gtNil))) tYesF (fVar 2) (fVar 1) [1, 2]))
def m_new_names : List D → Option D := mkF 3 1 b_new_names
def b_event_web : FS :=
    sRet (fOfX (xLc (fSeq (fVar 0)) (gtTup 2 (gtCons (gtName 1) (gtCons (gtName 2) gtNil))) tYesF (fOfX (xLc (fSeq (fVar 2)) (gtName 3) tYesF (fTup (aCons (fSl (fBor 3) oNone (oSome (fC (.int 3)))) (aCons (fBin gAt (fBor 3) (fC (.int 3))) aNil))) [3])) [1, 2]))
def m_event_web : List D → Option D := mkF 4 1 b_event_web
def b_part_that_comes : FS :=
    sSeq (sSet 1 (xVal (fCall m_coming (aCons (fCall m_event_web (aCons (fVar 0) aNil)) (aCons (fC (.int 0)) aNil)))))
    (sSeq (sSet 2 (xVal (fCall m_new_names (aCons (fVar 1) aNil))))
    (sRet (fCall gTupOf (aCons (fOfX (xLc (fSeq (fVar 1)) (gtName 3) tYesF (fCall m_renamed_state (aCons (fBin gAt (fBor 0) (fBor 3)) (aCons (fVar 2) aNil))) [3])) aNil))))
def m_part_that_comes : List D → Option D := mkF 4 1 b_part_that_comes
def b_part_of_fewest : FS :=
    sSeq (sSet 1 (xVal (fCall m_alike_groups (aCons (fVar 0) aNil))))
    (sSeq (sSet 2 ((fun f => xVal (fOfX f)) (xLc (fRg1 (fBin gAdd (fCall gMax (aCons (fBor 1) aNil)) (fC (.int 1)))) (gtName 3) tYesF (fIndex (fBor 1) (fBor 3)) [3])))
    (sRet (fCall m_part_that_comes (aCons (fCall gTupOf (aCons (fOfX (xLc (fSeq (fVar 2)) (gtName 4) tYesF (fCall m_renamed_state (aCons (fBin gAt (fBor 0) (fBor 4)) (aCons (fVar 1) aNil))) [4])) aNil)) aNil))))
def m_part_of_fewest : List D → Option D := mkF 5 1 b_part_of_fewest
def b_least_part : FS :=
    sSeq (sDrop (fCall m_check_part (aCons (fVar 0) aNil)))
    (sRet (fCall m_part_of_fewest (aCons (fVar 0) aNil)))
def m_least_part : List D → Option D := mkF 1 1 b_least_part
def b_law_alike (rec : List D → Option D) : FS :=
    sSeq (sIf (fTru (fIsi2 .tuple .list (fBor 1))) (sSeq (sIf (tOrF (tNotF (fTru (fIsi2 .tuple .list (fBor 0)))) (fTst (fBin gNe (fIsi .list (fBor 0)) (fIsi .list (fBor 1))))) (sRet (fC (.bool false))) sNil)
    (sSeq (sIf (fTst (fBin gNe (fCall gLen (aCons (fBor 0) aNil)) (fCall gLen (aCons (fBor 1) aNil)))) (sRet (fC (.bool false))) sNil)
    (sRet (fBin gEq (fOfX (xLc (fRg1 (fCall gLen (aCons (fBor 1) aNil))) (gtName 2) (tNotF (fTru (fCall rec (aCons (fBin gAt (fBor 0) (fBor 2)) (aCons (fBin gAt (fBor 1) (fBor 2)) aNil))))) (fVar 2) [2])) (fLst aNil))))) sNil)
    (sSeq (sIf (tOrF (fTst (fBin gIsN (fBor 1) (fC .none))) (fTru (fIsi .str (fBor 1)))) (sRet (fAnd (fBin gEq (fBor 0) (fBor 1)) (fBin gEq (fIsi .str (fBor 0)) (fIsi .str (fBor 1))))) sNil)
    (sRet (fAnd (fIsi .int (fBor 0)) (fAnd (fBin gEq (fIsi .bool (fBor 0)) (fIsi .bool (fBor 1))) (fBin gEq (fBor 0) (fBor 1))))))
def m_law_alike : Nat → List D → Option D
  | 0 => fun _ => none
  | k + 1 => mkF 3 2 (b_law_alike (m_law_alike k))
def b_same_parts : FS :=
    sRet (fBin gEq (fCall m_least_part (aCons (fVar 0) aNil)) (fCall m_least_part (aCons (fVar 1) aNil)))
def m_same_parts : List D → Option D := mkF 2 2 b_same_parts
def b_count_states : FS :=
    sRet (fCall gLen (aCons (fCall m_least_part (aCons (fVar 0) aNil)) aNil))
def m_count_states : List D → Option D := mkF 1 1 b_count_states
def b_trimmed_part : FS :=
    sSeq (sDrop (fCall m_check_part (aCons (fVar 0) aNil)))
    (sRet (fCall m_part_that_comes (aCons (fVar 0) aNil)))
def m_trimmed_part : List D → Option D := mkF 1 1 b_trimmed_part
def b_check_number : FS :=
    sIf (tNotF (fTru (fCall m_is_number (aCons (fVar 0) (aCons (fVar 1) (aCons (fVar 2) aNil)))))) sNo sNil
def m_check_number : List D → Option D := mkF 3 3 b_check_number
def b_counts_to : FS :=
    sSeq (sSet 3 (xLst (aCons (fOfX (xLc (fRg1 (fCall gLen (aCons (fBor 0) aNil))) (gtName 6) tYesF (fCall gInt (aCons (fBin gInA (fBor 6) (fBor 1)) aNil)) [6])) aNil)))
    (sSeq (sFor (fRg1 (fVar 2)) (gtName 4) (sSeq (sSet 5 (xVal (fBin gAt (fBor 3) (fBor 4))))
    (sApp 3 (fOfX (xLc (fSeq (fVar 0)) (gtName 7) tYesF (fCall gSum (aCons (fOfX (xLc (fSeq (fVar 7)) (gtTup 2 (gtCons (gtName 8) (gtCons (gtName 9) gtNil))) tYesF (fBin gAt (fBor 5) (fBor 9)) [8, 9])) aNil)) [7])))))
    (sFrz 3 (sRet (fVar 3))))
def m_counts_to : List D → Option D := mkF 10 3 b_counts_to
def b_rows_to : FS :=
    sSeq (sSet 3 (xVal (fCall m_counts_to (aCons (fVar 0) (aCons (fVar 1) (aCons (fVar 2) aNil))))))
    (sSeq (sSet 4 (xVal (fIf (fTru (fBin gAt (fBin gAt (fBor 3) (fBor 2)) (fC (.int 0)))) (fLst (aCons (fTup (aCons (fTup aNil) (aCons (fC (.int 0)) aNil))) aNil)) (fLst aNil))))
    (sSeq (sFor (fRev1 (fVar 2)) (gtName 5) (sSet 4 ((fun f => xVal (fOfX f)) (xLc2 (fSeq (fVar 4)) (gtTup 2 (gtCons (gtName 6) (gtCons (gtName 8) gtNil))) tYesF (fSeq (fBin gAt (fBor 0) (fBor 8))) (gtTup 2 (gtCons (gtName 9) (gtCons (gtName 10) gtNil))) (fTru (fBin gAt (fBin gAt (fBor 3) (fBor 5)) (fBor 10))) (fTup (aCons (fBin gAdd (fBor 6) (fTup (aCons (fVar 9) aNil))) (aCons (fVar 10) aNil))) [6, 8, 9, 10] [9, 10]))))
    (sRet (fOfX (xLc (fSeq (fVar 4)) (gtTup 2 (gtCons (gtName 6) (gtCons (gtName 7) gtNil))) tYesF (fVar 6) [6, 7])))))
def m_rows_to : List D → Option D := mkF 11 3 b_rows_to
def b_runs : FS :=
    sSeq (sDrop (fCall m_check_part (aCons (fVar 0) aNil)))
    (sSeq (sDrop (fCall m_check_number (aCons (fVar 1) (aCons (fC (.int 0)) (aCons (fC (.int 12)) aNil)))))
    (sRet (fCall m_rows_to (aCons (fCall m_event_web (aCons (fVar 0) aNil)) (aCons (fLrg1 (fCall gLen (aCons (fBor 0) aNil))) (aCons (fVar 1) aNil))))))
def m_runs : List D → Option D := mkF 2 2 b_runs
def b_resting_runs : FS :=
    sSeq (sDrop (fCall m_check_part (aCons (fVar 0) aNil)))
    (sSeq (sDrop (fCall m_check_number (aCons (fVar 1) (aCons (fC (.int 0)) (aCons (fC (.int 12)) aNil)))))
    (sSeq (sSet 2 ((fun f => xVal (fOfX f)) (xLc (fRg1 (fCall gLen (aCons (fBor 0) aNil))) (gtName 3) (fTru (fBin gAt (fBin gAt (fBor 0) (fBor 3)) (fC (.int 0)))) (fVar 3) [3])))
    (sRet (fCall m_rows_to (aCons (fCall m_event_web (aCons (fVar 0) aNil)) (aCons (fVar 2) (aCons (fVar 1) aNil)))))))
def m_resting_runs : List D → Option D := mkF 4 2 b_resting_runs
def b_law : FS :=
    sSeq (sPars [2, 3] (xsCons (xVal (fCallR 1 m_law_part (aCons (fC (.int 4)) (aCons (fC (.bool true)) aNil)))) (xsCons (xVal (fCallR 1 m_law_part (aCons (fC (.int 4)) (aCons (fC (.bool true)) aNil)))) xsNil)))
    (sSeq (sIf (fTst (fBin gEq (fCallR 1 m_law_taken (aCons (fC (.int 2)) aNil)) (fC (.int 0)))) (sSeq (sSet 4 (xVal (fCall gLen (aCons (fBor 2) aNil))))
    (sSeq (sSet 5 (xVal (fCall gTupOf (aCons (fOfX (xLc (fSeq (fVar 2)) (gtName 10) tYesF (fTup (aCons (fBin gAt (fBor 10) (fC (.int 0))) (aCons (fCall gTupOf (aCons (fOfX (xLc (fSeq (fBin gAt (fBor 10) (fC (.int 1)))) (gtName 11) tYesF (fBin gAdd (fSl (fBor 11) oNone (oSome (fC (.int 3)))) (fTup (aCons (fBin gAdd (fBin gAt (fBor 11) (fC (.int 3))) (fBin gMul (fBor 4) (fCallR 1 m_law_taken (aCons (fC (.int 2)) aNil)))) aNil))) [11])) aNil)) aNil))) [10])) aNil))))
    (sSet 3 (xVal (fBin gAdd (fBor 5) (fCall gTupOf (aCons (fOfX (xLc (fSeq (fVar 2)) (gtName 10) tYesF (fTup (aCons (fBin gAt (fBor 10) (fC (.int 0))) (aCons (fCall gTupOf (aCons (fOfX (xLc (fSeq (fBin gAt (fBor 10) (fC (.int 1)))) (gtName 11) tYesF (fBin gAdd (fSl (fBor 11) oNone (oSome (fC (.int 3)))) (fTup (aCons (fBin gAdd (fBin gAt (fBor 11) (fC (.int 3))) (fBor 4)) aNil))) [11])) aNil)) aNil))) [10])) aNil))))))) sNil)
    (sSeq (sSet 6 (xVal (fCall m_law_least (aCons (fVar 2) aNil))))
    (sSeq (sIf (tOrF (tNotF (fTru (fCall (m_law_alike 9) (aCons (fCall m_least_part (aCons (fVar 2) aNil)) (aCons (fVar 6) aNil))))) (tNotF (fTru (fCall (m_law_alike 9) (aCons (fCall m_count_states (aCons (fVar 2) aNil)) (aCons (fCall gLen (aCons (fBor 6) aNil)) aNil)))))) (sRet (fC (.bool false))) sNil)
    (sSeq (sIf (fTst (fBin gNe (fCall m_least_part (aCons (fVar 6) aNil)) (fBor 6))) (sRet (fC (.bool false))) sNil)
    (sSeq (sIf (tNotF (fTru (fCall (m_law_alike 9) (aCons (fCall m_same_parts (aCons (fVar 2) (aCons (fVar 3) aNil))) (aCons (fBin gEq (fCall m_law_least (aCons (fVar 3) aNil)) (fBor 6)) aNil))))) (sRet (fC (.bool false))) sNil)
    (sSeq (sIf (tNotF (fTru (fCall m_same_parts (aCons (fVar 2) (aCons (fCall m_trimmed_part (aCons (fVar 2) aNil)) aNil))))) (sRet (fC (.bool false))) sNil)
    (sSeq (sIf (tNotF (fTru (fCall m_same_parts (aCons (fVar 2) (aCons (fVar 6) aNil))))) (sRet (fC (.bool false))) sNil)
    (sSeq (sFor (fRg1 (fC (.int 5))) (gtName 7) (sSeq (sPars [8, 9] (xsCons (xVal (fCall m_runs (aCons (fVar 2) (aCons (fVar 7) aNil)))) (xsCons (xVal (fCall m_runs (aCons (fVar 3) (aCons (fVar 7) aNil)))) xsNil)))
    (sSeq (sIf (tAndF (fTru (fCall m_same_parts (aCons (fVar 2) (aCons (fVar 3) aNil)))) (tOrF (fTst (fBin gNe (fBor 8) (fBor 9))) (fTst (fBin gNe (fCall m_resting_runs (aCons (fVar 2) (aCons (fVar 7) aNil))) (fCall m_resting_runs (aCons (fVar 3) (aCons (fVar 7) aNil))))))) (sRet (fC (.bool false))) sNil)
    (sIf (tOrF (fTst (fBin gNe (fCall m_runs (aCons (fVar 6) (aCons (fVar 7) aNil))) (fBor 8))) (fTst (fBin gNe (fCall m_resting_runs (aCons (fVar 6) (aCons (fVar 7) aNil))) (fCall m_resting_runs (aCons (fVar 2) (aCons (fVar 7) aNil)))))) (sRet (fC (.bool false))) sNil))))
    (sSeq (sIf (fTst (fBin gNe (fCall m_same_parts (aCons (fVar 2) (aCons (fVar 3) aNil))) (fCall m_same_parts (aCons (fVar 3) (aCons (fVar 2) aNil))))) (sRet (fC (.bool false))) sNil)
    (sSeq (sIf (fTst (fBin gNe (fCall m_same_parts (aCons (fVar 2) (aCons (fVar 3) aNil))) (fBin gEq (fCall m_least_part (aCons (fVar 3) aNil)) (fCall m_least_part (aCons (fVar 2) aNil))))) (sRet (fC (.bool false))) sNil)
    (sRet (fChain (gI yes2 fun i j => .bool (decide (i ≤ j))) (gI yes2 fun i j => .bool (decide (i ≤ j))) (fCall m_count_states (aCons (fVar 2) aNil)) (fCall gLen (aCons (fCall m_trimmed_part (aCons (fVar 2) aNil)) aNil)) (fCall gLen (aCons (fBor 2) aNil))))))))))))))
def b_numbered : FS :=
    sSeq (sSet 1 xNewA)
    (sSeq (sFor (fSeq (fVar 0)) (gtName 2) (sSetA 1 (fVar 2)))
    (sRet (fOfX (xLc (fSeq (fVar 0)) (gtName 2) tYesF (fAtA 1 (fVar 2)) [2]))))
def mw_numbered : List D → Option D := mkF 3 1 b_numbered
end Lw

namespace Lw
open RT PySem
theorem pure_numbered : ∀ ds d, m_numbered ds = some d → mw_numbered ds = some d := numbered_pure
end Lw

namespace Lw
open PySem PySem.Spec PyProof.Rows L2 RT

def topS (i : Nat) : Stmt := PySem.Challenge.pw_roletalks_k04_whole_parts_that_do_the_sa.main.body.getD i (.Pass ⟨0, 0, 0, 0⟩)
theorem v_all : bootBuiltins "all" = some (.builtin "all") := by decide +kernel
theorem v_bool : bootBuiltins "bool" = some (.type "bool") := by decide +kernel
theorem v_enumerate : bootBuiltins "enumerate" = some (.type "enumerate") := by decide +kernel
theorem v_int : bootBuiltins "int" = some (.type "int") := by decide +kernel
theorem v_isinstance : bootBuiltins "isinstance" = some (.builtin "isinstance") := by decide +kernel
theorem v_len : bootBuiltins "len" = some (.builtin "len") := by decide +kernel
theorem v_list : bootBuiltins "list" = some (.type "list") := by decide +kernel
theorem v_max : bootBuiltins "max" = some (.builtin "max") := by decide +kernel
theorem v_range : bootBuiltins "range" = some (.type "range") := by decide +kernel
theorem v_reversed : bootBuiltins "reversed" = some (.type "reversed") := by decide +kernel
theorem v_sorted : bootBuiltins "sorted" = some (.builtin "sorted") := by decide +kernel
theorem v_str : bootBuiltins "str" = some (.type "str") := by decide +kernel
theorem v_sum : bootBuiltins "sum" = some (.builtin "sum") := by decide +kernel
theorem v_tuple : bootBuiltins "tuple" = some (.type "tuple") := by decide +kernel
abbrev s_law_marks : Stmt := topS 41
abbrev N_law_marks : List Str := ["part", "marks", "turn", "lines", "state", "line", "step"]
theorem sc_law_marks : FnScope N_law_marks ["part"] (defScope s_law_marks) := ⟨rfl, rfl, rfl, by decide +kernel, rfl, by decide +kernel, by decide +kernel⟩
abbrev s_law_least : Stmt := topS 42
abbrev N_law_least : List Str := ["part", "marks", "step", "thin", "order", "count", "found", "at", "state"]
theorem sc_law_least : FnScope N_law_least ["part"] (defScope s_law_least) := ⟨rfl, rfl, rfl, by decide +kernel, rfl, by decide +kernel, by decide +kernel⟩
abbrev s_law_taken : Stmt := topS 36
abbrev N_law_taken : List Str := ["row", "many", "found", "cell"]
theorem sc_law_taken : FnScope N_law_taken ["row", "many"] (defScope s_law_taken) := ⟨rfl, rfl, rfl, by decide +kernel, rfl, by decide +kernel, by decide +kernel⟩
abbrev s_law_pick : Stmt := topS 37
abbrev N_law_pick : List Str := ["row", "kinds"]
theorem sc_law_pick : FnScope N_law_pick ["row", "kinds"] (defScope s_law_pick) := ⟨rfl, rfl, rfl, by decide +kernel, rfl, by decide +kernel, by decide +kernel⟩
abbrev s_law_state : Stmt := topS 39
abbrev N_law_state : List Str := ["row", "size", "plain", "kind", "heads", "turn", "steps", "head"]
theorem sc_law_state : FnScope N_law_state ["row", "size", "plain"] (defScope s_law_state) := ⟨rfl, rfl, rfl, by decide +kernel, rfl, by decide +kernel, by decide +kernel⟩
abbrev s_law_part : Stmt := topS 40
abbrev N_law_part : List Str := ["row", "most", "plain", "size", "at"]
theorem sc_law_part : FnScope N_law_part ["row", "most", "plain"] (defScope s_law_part) := ⟨rfl, rfl, rfl, by decide +kernel, rfl, by decide +kernel, by decide +kernel⟩
abbrev s_has_items : Stmt := topS 7
abbrev N_has_items : List Str := ["value", "least", "most"]
theorem sc_has_items : FnScope N_has_items ["value", "least", "most"] (defScope s_has_items) := ⟨rfl, rfl, rfl, by decide +kernel, rfl, by decide +kernel, by decide +kernel⟩
abbrev s_is_rising : Stmt := topS 8
abbrev N_is_rising : List Str := ["values", "at"]
theorem sc_is_rising : FnScope N_is_rising ["values"] (defScope s_is_rising) := ⟨rfl, rfl, rfl, by decide +kernel, rfl, by decide +kernel, by decide +kernel⟩
abbrev s_is_number : Stmt := topS 6
abbrev N_is_number : List Str := ["value", "least", "most"]
theorem sc_is_number : FnScope N_is_number ["value", "least", "most"] (defScope s_is_number) := ⟨rfl, rfl, rfl, by decide +kernel, rfl, by decide +kernel, by decide +kernel⟩
abbrev s_is_event : Stmt := topS 22
abbrev N_is_event : List Str := ["value", "kind", "other", "word"]
theorem sc_is_event : FnScope N_is_event ["value"] (defScope s_is_event) := ⟨rfl, rfl, rfl, by decide +kernel, rfl, by decide +kernel, by decide +kernel⟩
abbrev s_is_step : Stmt := topS 21
abbrev N_is_step : List Str := ["value", "many"]
theorem sc_is_step : FnScope N_is_step ["value", "many"] (defScope s_is_step) := ⟨rfl, rfl, rfl, by decide +kernel, rfl, by decide +kernel, by decide +kernel⟩
abbrev s_is_state : Stmt := topS 20
abbrev N_is_state : List Str := ["value", "many", "rest", "steps", "step"]
theorem sc_is_state : FnScope N_is_state ["value", "many"] (defScope s_is_state) := ⟨rfl, rfl, rfl, by decide +kernel, rfl, by decide +kernel, by decide +kernel⟩
abbrev s_check_part : Stmt := topS 19
abbrev N_check_part : List Str := ["part", "index", "state"]
theorem sc_check_part : FnScope N_check_part ["part"] (defScope s_check_part) := ⟨rfl, rfl, rfl, by decide +kernel, rfl, by decide +kernel, by decide +kernel⟩
abbrev s_numbered : Stmt := topS 33
abbrev N_numbered : List Str := ["marks", "numbers", "mark"]
theorem sc_numbered : FnScope N_numbered ["marks"] (defScope s_numbered) := ⟨rfl, rfl, rfl, by decide +kernel, rfl, by decide +kernel, by decide +kernel⟩
abbrev s_renamed_state : Stmt := topS 26
abbrev N_renamed_state : List Str := ["state", "names", "rest", "steps", "kind", "other", "word", "there"]
theorem sc_renamed_state : FnScope N_renamed_state ["state", "names"] (defScope s_renamed_state) := ⟨rfl, rfl, rfl, by decide +kernel, rfl, by decide +kernel, by decide +kernel⟩
abbrev s_alike_groups : Stmt := topS 32
abbrev N_alike_groups : List Str := ["part", "groups", "finer", "rest", "_", "at"]
theorem sc_alike_groups : FnScope N_alike_groups ["part"] (defScope s_alike_groups) := ⟨rfl, rfl, rfl, by decide +kernel, rfl, by decide +kernel, by decide +kernel⟩
abbrev s_coming : Stmt := topS 10
abbrev N_coming : List Str := ["web", "start", "order", "seen", "at", "place", "_", "there"]
theorem sc_coming : FnScope N_coming ["web", "start"] (defScope s_coming) := ⟨rfl, rfl, rfl, by decide +kernel, rfl, by decide +kernel, by decide +kernel⟩
abbrev s_new_names : Stmt := topS 11
abbrev N_new_names : List Str := ["order", "at", "place"]
theorem sc_new_names : FnScope N_new_names ["order"] (defScope s_new_names) := ⟨rfl, rfl, rfl, by decide +kernel, rfl, by decide +kernel, by decide +kernel⟩
abbrev s_event_web : Stmt := topS 23
abbrev N_event_web : List Str := ["part", "_", "steps", "step"]
theorem sc_event_web : FnScope N_event_web ["part"] (defScope s_event_web) := ⟨rfl, rfl, rfl, by decide +kernel, rfl, by decide +kernel, by decide +kernel⟩
abbrev s_part_that_comes : Stmt := topS 25
abbrev N_part_that_comes : List Str := ["part", "order", "names", "state"]
theorem sc_part_that_comes : FnScope N_part_that_comes ["part"] (defScope s_part_that_comes) := ⟨rfl, rfl, rfl, by decide +kernel, rfl, by decide +kernel, by decide +kernel⟩
abbrev s_part_of_fewest : Stmt := topS 31
abbrev N_part_of_fewest : List Str := ["part", "groups", "firsts", "group", "state"]
theorem sc_part_of_fewest : FnScope N_part_of_fewest ["part"] (defScope s_part_of_fewest) := ⟨rfl, rfl, rfl, by decide +kernel, rfl, by decide +kernel, by decide +kernel⟩
abbrev s_least_part : Stmt := topS 30
abbrev N_least_part : List Str := ["part"]
theorem sc_least_part : FnScope N_least_part ["part"] (defScope s_least_part) := ⟨rfl, rfl, rfl, by decide +kernel, rfl, by decide +kernel, by decide +kernel⟩
abbrev s_law_alike : Stmt := topS 38
abbrev N_law_alike : List Str := ["found", "due", "k"]
theorem sc_law_alike : FnScope N_law_alike ["found", "due"] (defScope s_law_alike) := ⟨rfl, rfl, rfl, by decide +kernel, rfl, by decide +kernel, by decide +kernel⟩
abbrev s_same_parts : Stmt := topS 29
abbrev N_same_parts : List Str := ["one", "other"]
theorem sc_same_parts : FnScope N_same_parts ["one", "other"] (defScope s_same_parts) := ⟨rfl, rfl, rfl, by decide +kernel, rfl, by decide +kernel, by decide +kernel⟩
abbrev s_count_states : Stmt := topS 34
abbrev N_count_states : List Str := ["part"]
theorem sc_count_states : FnScope N_count_states ["part"] (defScope s_count_states) := ⟨rfl, rfl, rfl, by decide +kernel, rfl, by decide +kernel, by decide +kernel⟩
abbrev s_trimmed_part : Stmt := topS 24
abbrev N_trimmed_part : List Str := ["part"]
theorem sc_trimmed_part : FnScope N_trimmed_part ["part"] (defScope s_trimmed_part) := ⟨rfl, rfl, rfl, by decide +kernel, rfl, by decide +kernel, by decide +kernel⟩
abbrev s_check_number : Stmt := topS 9
abbrev N_check_number : List Str := ["value", "least", "most"]
theorem sc_check_number : FnScope N_check_number ["value", "least", "most"] (defScope s_check_number) := ⟨rfl, rfl, rfl, by decide +kernel, rfl, by decide +kernel, by decide +kernel⟩
abbrev s_counts_to : Stmt := topS 12
abbrev N_counts_to : List Str := ["web", "goals", "many", "counts", "length", "shorter", "place", "steps", "_", "there"]
theorem sc_counts_to : FnScope N_counts_to ["web", "goals", "many"] (defScope s_counts_to) := ⟨rfl, rfl, rfl, by decide +kernel, rfl, by decide +kernel, by decide +kernel⟩
abbrev s_rows_to : Stmt := topS 13
abbrev N_rows_to : List Str := ["web", "goals", "many", "counts", "found", "left", "row", "_", "place", "mark", "there"]
theorem sc_rows_to : FnScope N_rows_to ["web", "goals", "many"] (defScope s_rows_to) := ⟨rfl, rfl, rfl, by decide +kernel, rfl, by decide +kernel, by decide +kernel⟩
abbrev s_runs : Stmt := topS 27
abbrev N_runs : List Str := ["part", "many"]
theorem sc_runs : FnScope N_runs ["part", "many"] (defScope s_runs) := ⟨rfl, rfl, rfl, by decide +kernel, rfl, by decide +kernel, by decide +kernel⟩
abbrev s_resting_runs : Stmt := topS 28
abbrev N_resting_runs : List Str := ["part", "many", "resting", "state"]
theorem sc_resting_runs : FnScope N_resting_runs ["part", "many"] (defScope s_resting_runs) := ⟨rfl, rfl, rfl, by decide +kernel, rfl, by decide +kernel, by decide +kernel⟩
abbrev s_law : Stmt := topS 43
abbrev N_law : List Str := ["script", "row", "one", "other", "base", "twin", "least", "many", "mine", "its", "state", "step"]
theorem sc_law : FnScope N_law ["script"] (defScope s_law) := ⟨rfl, rfl, rfl, by decide +kernel, rfl, by decide +kernel, by decide +kernel⟩
section
variable {P : Program} {w : World} {K : PySem.W.Frag} {mg : Str → Option Value} {base : Heap}
theorem ok_law_marks {f : Addr} {fd : FuncData} {k : Nat} (F : Fun K "_law_marks" "_law_marks" s_law_marks f fd) (z_range : mg "range" = none) (z_len : mg "len" = none) (z_tuple : mg "tuple" = none) : FnOk P w K mg base CX0 (k + 1) f fd ["part"] (spF K m_law_marks) := by
  refine RT.ok_fn F sc_law_marks (fun cdv A outer s H E hr => ?_)
  unfold b_law_marks
  exact sss_cons (ss_set (i := 1) (sc_law_marks.nd) rfl (by first | exact Or.inl rfl | exact Or.inr rfl) (sx_of (se_op od_mulA (sb_of (se_lst (sa_cons se_int sa_nil))) (sb_of (se_callB cd_len (by rfl) z_len v_len (sbs_cons (sb_var 0) sbs_nil))))))
      (sss_cons (ss_for PassesOwn.never rfl (si_rg1 (by rfl) z_range (se_op od_addA (sb_of (se_callB cd_len (by rfl) z_len v_len (sbs_cons (sb_var 0) sbs_nil))) (sb_of se_int))) (sg_name 2 (vs := [2]) (sc_law_marks.nd) rfl (by first | exact Or.inl rfl | exact Or.inr rfl) (by decide)) (sss_cons (ss_set (i := 3) (sc_law_marks.nd) rfl (by first | exact Or.inl rfl | exact Or.inr rfl) (sx_of (se_ofX (sx_lc (own := [("state", 4)]) rfl (sc_law_marks.nd) (si_seq (se_var 0)) (blkOk_by (own := [("state", 4)]) (N := N_law_marks) (sc := defScope s_law_marks) (by decide +kernel)) (fun _ _ _ _ _ => sg_name 4 (vs := [4]) (sc_law_marks.nd) rfl (by first | exact Or.inl rfl | exact Or.inr rfl) (by decide)) (fun _ _ _ _ _ => sts_nil) (fun _ _ _ _ _ => se_tup (sa_cons (se_at (hu_of hr) (sb_var 4) (sb_of se_int)) (sa_cons (se_callTy cd_tuple (by rfl) z_tuple v_tuple (sbs_cons (sb_of (se_ofX (sx_lc (own := [("step", 6)]) rfl (sc_law_marks.nd) (si_seq (se_at (hu_of hr) (sb_var 4) (sb_of se_int))) (by dsimp only [L2.Cx.blk, compEnvC]; exact blkOk_by (own := [("step", 6)]) (N := N_law_marks) (by first | rfl | kernel_rfl)) (fun _ _ _ _ _ => sg_name 6 (vs := [6]) (sc_law_marks.nd) rfl (by first | exact Or.inl rfl | exact Or.inr rfl) (by decide)) (fun _ _ _ _ _ => sts_nil) (fun _ _ _ _ _ => se_op od_addA (sb_of (se_sl (sb_var 6) so_none (so_some se_int))) (sb_of (se_tup (sa_cons (se_at (hu_of hr) (sb_var 1) (sb_of (se_at (hu_of hr) (sb_var 6) (sb_of se_int)))) sa_nil))))))) sbs_nil)) sa_nil)))))))
      (sss_one (ss_set (i := 1) (sc_law_marks.nd) rfl (by first | exact Or.inl rfl | exact Or.inr rfl) (sx_of (se_ofX (sx_lc (own := [("line", 5)]) rfl (sc_law_marks.nd) (si_seq (se_var 3)) (blkOk_by (own := [("line", 5)]) (N := N_law_marks) (sc := defScope s_law_marks) (by decide +kernel)) (fun _ _ _ _ _ => sg_name 5 (vs := [5]) (sc_law_marks.nd) rfl (by first | exact Or.inl rfl | exact Or.inr rfl) (by decide)) (fun _ _ _ _ _ => sts_nil) (fun _ _ _ _ _ => se_index (room65 hr) (sb_var 3) (sb_var 5)))))))))
      (sss_one (ss_ret (se_var 1))))
theorem ok_law_least {f : Addr} {fd : FuncData} {k : Nat} (F : Fun K "_law_least" "_law_least" s_law_least f fd) (c_law_marks : Callee P w K mg base k "_law_marks" (spF K m_law_marks)) (z_tuple : mg "tuple" = none) (z_len : mg "len" = none) (z_int : mg "int" = none) : FnOk P w K mg base CX0 (k + 1) f fd ["part"] (spF K m_law_least) := by
  refine RT.ok_fn F sc_law_least (fun cdv A outer s H E hr => ?_)
  unfold b_law_least
  exact sss_cons (ss_set (i := 1) (sc_law_least.nd) rfl (by first | exact Or.inl rfl | exact Or.inr rfl) (sx_of (se_call c_law_marks hr (by rfl) (sa_cons (se_var 0) sa_nil))))
      (sss_cons (ss_setLc (i := 3) (own := [("state", 8)]) rfl (sc_law_least.nd) rfl rfl (sw_true rfl rfl rfl (by decide +kernel)) (si_seq (se_var 0)) (blkOk_by (own := [("state", 8)]) (N := N_law_least) (sc := defScope s_law_least) (by decide +kernel)) (fun _ _ _ _ _ => sg_name 8 (vs := [8]) (sc_law_least.nd) rfl (by first | exact Or.inl rfl | exact Or.inr rfl) (by decide)) (fun _ _ _ _ _ => sts_nil) (fun _ _ _ _ _ => se_tup (sa_cons (se_at (hu_of hr) (sb_var 8) (sb_of se_int)) (sa_cons (se_callTy cd_tuple (by rfl) z_tuple v_tuple (sbs_cons (sb_of (se_ofX (sx_lc (own := [("step", 2)]) rfl (sc_law_least.nd) (si_seq (se_at (hu_of hr) (sb_var 8) (sb_of se_int))) (by dsimp only [L2.Cx.blk, compEnvC]; exact blkOk_by (own := [("step", 2)]) (N := N_law_least) (by first | rfl | kernel_rfl)) (fun _ _ _ _ _ => sg_name 2 (vs := [2]) (sc_law_least.nd) rfl (by first | exact Or.inl rfl | exact Or.inr rfl) (by decide)) (fun _ _ _ _ _ => sts_nil) (fun _ _ _ _ _ => se_op od_addA (sb_of (se_sl (sb_var 2) so_none (so_some se_int))) (sb_of (se_tup (sa_cons (se_at (hu_of hr) (sb_var 1) (sb_of (se_at (hu_of hr) (sb_var 2) (sb_of se_int)))) sa_nil))))))) sbs_nil)) sa_nil))) (tr := (fun f => xVal (fOfX f))) (htr := (.inr rfl)))
      (sss_cons (ss_parT (is := [4, 5]) rfl (sc_law_least.nd) (.cons rfl (by first | exact Or.inl rfl | exact Or.inr rfl) (Or.inl rfl) rfl (.cons rfl (by first | exact Or.inl rfl | exact Or.inr rfl) (Or.inl rfl) rfl .nil)) (sxs_cons (sx_of (se_lst (sa_cons (se_at (hu_of hr) (sb_var 1) (sb_of se_int)) sa_nil))) (sxs_cons (sx_of se_int) sxs_nil)) (by decide) rfl rfl rfl rfl rfl)
      (sss_cons (ss_while 1000 PassesOwn.never (st_w (sw_and (st_cmp (od_ltX hr.units) (sb_var 5) (sb_of (se_callB cd_len (by rfl) z_len v_len (sbs_cons (sb_var 4) sbs_nil))) (nomark _)) (sw_and1 (st_cmp (od_ltX hr.units) (sb_var 5) (sb_of se_int) (nomark _))))) (sss_cons (ss_for PassesOwn.never rfl (si_seq (se_at (hu_of hr) (sb_of (se_at (hu_of hr) (sb_var 3) (sb_of (se_at (hu_of hr) (sb_var 4) (sb_var 5))))) (sb_of se_int))) (sg_name 2 (vs := [2]) (sc_law_least.nd) rfl (by first | exact Or.inl rfl | exact Or.inr rfl) (by decide)) (sss_one (ss_set (i := 4) (sc_law_least.nd) rfl (by first | exact Or.inl rfl | exact Or.inr rfl) (sx_of (se_op od_addA (sb_var 4) (sb_of (se_op od_mulA (sb_of (se_lst (sa_cons (se_at (hu_of hr) (sb_var 2) (sb_of se_int)) sa_nil))) (sb_of (se_callTy cd_int (by rfl) z_int v_int (sbs_cons (sb_of (se_notInA (room65 hr) (sb_of (se_at (hu_of hr) (sb_var 2) (sb_of se_int))) (sb_var 4))) sbs_nil))))))))))
      (sss_one (ss_set (i := 5) (sc_law_least.nd) rfl (by first | exact Or.inl rfl | exact Or.inr rfl) (sx_of (se_op od_addA (sb_var 5) (sb_of se_int)))))))
      (sss_cons (ss_set (i := 6) (sc_law_least.nd) rfl (by first | exact Or.inl rfl | exact Or.inr rfl) (sx_lst sa_nil))
      (sss_cons (ss_for PassesOwn.never rfl (si_seq (se_var 4)) (sg_name 7 (vs := [7]) (sc_law_least.nd) rfl (by first | exact Or.inl rfl | exact Or.inr rfl) (by decide)) (sss_one (ss_app (i := 6) (se_tup (sa_cons (se_at (hu_of hr) (sb_of (se_at (hu_of hr) (sb_var 3) (sb_var 7))) (sb_of se_int)) (sa_cons (se_callTy cd_tuple (by rfl) z_tuple v_tuple (sbs_cons (sb_of (se_ofX (sx_lc (own := [("step", 2)]) rfl (sc_law_least.nd) (si_seq (se_at (hu_of hr) (sb_of (se_at (hu_of hr) (sb_var 3) (sb_var 7))) (sb_of se_int))) (blkOk_by (own := [("step", 2)]) (N := N_law_least) (sc := defScope s_law_least) (by decide +kernel)) (fun _ _ _ _ _ => sg_name 2 (vs := [2]) (sc_law_least.nd) rfl (by first | exact Or.inl rfl | exact Or.inr rfl) (by decide)) (fun _ _ _ _ _ => sts_nil) (fun _ _ _ _ _ => se_op od_addA (sb_of (se_sl (sb_var 2) so_none (so_some se_int))) (sb_of (se_tup (sa_cons (se_index (room65 hr) (sb_var 4) (sb_of (se_at (hu_of hr) (sb_var 2) (sb_of se_int)))) sa_nil))))))) sbs_nil)) sa_nil))))))
      (sss_one (ss_ret (se_callTy cd_tuple (by rfl) z_tuple v_tuple (sbs_cons (sb_var 6) sbs_nil)))))))))
theorem ok_law_taken {f : Addr} {fd : FuncData} {k : Nat} (F : Fun K "_law_taken" "_law_taken" s_law_taken f fd) (z_int : mg "int" = none) (z_len : mg "len" = none) : FnOk P w K mg base CX0 (k + 1) f fd ["row", "many"] (spR K m_law_taken) := by
  refine RT.ok_fnR F sc_law_taken (by decide) (by decide) (fun cdv A outer s H E hr => ?_)
  unfold b_law_taken
  exact sss_cons (ss_if (st_cmp od_gt (sb_of (se_row (i := 0))) (sb_of se_int) (nomark _)) (sss_cons (ss_set (i := 2) (sc_law_taken.nd) rfl (by first | exact Or.inl rfl | exact Or.inr rfl) (sx_of (se_op od_mod (sb_of (se_callTy cd_int (by rfl) z_int v_int (sbs_cons (sb_of (se_row (i := 0))) sbs_nil))) (sb_var 1))))
      (sss_cons (ss_row (i := 0) (se_op od_div (sb_of (se_row (i := 0))) (sb_var 1)))
      (sss_one (ss_ret (se_var 2))))) sss_nil)
      (sss_cons (ss_row (i := 0) (se_op od_addA (sb_of (se_row (i := 0))) (sb_of se_int)))
      (sss_cons (ss_if (st_cmp od_gt (sb_of (se_row (i := 0))) (sb_of (se_rowlen (i := 0) (by rfl) z_len)) (nomark _)) (sss_cons (ss_row (i := 0) (se_op od_mod (sb_of (se_callTy cd_int (by rfl) z_int v_int (sbs_cons (sb_of (se_op od_addA (sb_of (se_op od_mulA (sb_of (se_row (i := 0))) (sb_of se_int))) (sb_of se_int))) sbs_nil))) (sb_of se_int)))
      (sss_one (ss_ret (se_op od_mod (sb_of (se_callTy cd_int (by rfl) z_int v_int (sbs_cons (sb_of (se_op od_div (sb_of (se_row (i := 0))) (sb_of se_int))) sbs_nil))) (sb_var 1))))) sss_nil)
      (sss_cons (ss_set (i := 3) (sc_law_taken.nd) rfl (by first | exact Or.inl rfl | exact Or.inr rfl) (sx_of (se_rowat (i := 0) (se_op od_sub (sb_of (se_row (i := 0))) (sb_of se_int)))))
      (sss_cons (ss_row (i := 0) (se_op od_mod (sb_of (se_callTy cd_int (by rfl) z_int v_int (sbs_cons (sb_of (se_op od_addA (sb_of (se_op od_addA (sb_of (se_op od_mulA (sb_of (se_row (i := 0))) (sb_of se_int))) (sb_var 3))) (sb_of se_int))) sbs_nil))) (sb_of se_int)))
      (sss_cons (ss_if (st_cmp od_ge (sb_var 3) (sb_of (se_op od_pow (sb_of se_int) (sb_of se_int))) (nomark _)) (sss_one (ss_row (i := 0) (se_op od_div (sb_var 3) (sb_var 1)))) sss_nil)
      (sss_one (ss_ret (se_op od_mod (sb_of (se_callTy cd_int (by rfl) z_int v_int (sbs_cons (sb_var 3) sbs_nil))) (sb_var 1)))))))))
theorem ok_law_pick {f : Addr} {fd : FuncData} {k : Nat} (F : Fun K "_law_pick" "_law_pick" s_law_pick f fd) (c_law_taken : Callee P w K mg base k "_law_taken" (spR K m_law_taken)) (z_len : mg "len" = none) : FnOk P w K mg base CX0 (k + 1) f fd ["row", "kinds"] (spR K m_law_pick) := by
  refine RT.ok_fnR F sc_law_pick (by decide) (by decide) (fun cdv A outer s H E hr => ?_)
  unfold b_law_pick
  exact sss_one (ss_ret (se_at (hu_of hr) (sb_var 1) (sb_of (se_callR (i := 0) c_law_taken hr (by rfl) (sa_cons (se_callB cd_len (by rfl) z_len v_len (sbs_cons (sb_var 1) sbs_nil)) sa_nil)))))
theorem ok_law_state {f : Addr} {fd : FuncData} {k : Nat} (F : Fun K "_law_state" "_law_state" s_law_state f fd) (c_law_taken : Callee P w K mg base k "_law_taken" (spR K m_law_taken)) (c_law_pick : Callee P w K mg base k "_law_pick" (spR K m_law_pick)) (z_tuple : mg "tuple" = none) (z_sorted : mg "sorted" = none) (z_list : mg "list" = none) (z_range : mg "range" = none) : FnOk P w K mg base CX0 (k + 1) f fd ["row", "size", "plain"] (spR K m_law_state) := by
  refine RT.ok_fnR F sc_law_state (by decide) (by decide) (fun cdv A outer s H E hr => ?_)
  unfold b_law_state
  exact sss_cons (ss_parT (is := [3, 4]) rfl (sc_law_state.nd) (.cons rfl (by first | exact Or.inl rfl | exact Or.inr rfl) (Or.inl rfl) rfl (.cons rfl (by first | exact Or.inl rfl | exact Or.inr rfl) (Or.inl rfl) rfl .nil)) (sxs_cons (sx_of (se_callR (i := 0) c_law_pick hr (by rfl) (sa_cons (se_lst (sa_cons se_str (sa_cons se_str sa_nil))) sa_nil))) (sxs_cons sx_dT sxs_nil)) (by decide) rfl rfl rfl rfl rfl)
      (sss_cons (ss_for PassesOwn.never rfl (si_rg1 (by rfl) z_range (se_callR (i := 0) c_law_taken hr (by rfl) (sa_cons se_int sa_nil))) (sg_name 5 (vs := [5]) (sc_law_state.nd) rfl (by first | exact Or.inl rfl | exact Or.inr rfl) (by decide)) (sss_cons (ss_set (i := 3) (sc_law_state.nd) rfl (by first | exact Or.inl rfl | exact Or.inr rfl) (sx_of (se_if (st_tru (sb_var 2)) (se_var 3) (se_callR (i := 0) c_law_pick hr (by rfl) (sa_cons (se_lst (sa_cons se_str (sa_cons se_str sa_nil))) sa_nil)))))
      (sss_one (ss_dput (i := 4) (hu_of hr) (se_callR (i := 0) c_law_taken hr (by rfl) (sa_cons (se_var 1) sa_nil)) (se_tup (sa_cons (se_var 3) (sa_cons (se_op od_addA (sb_of se_int) (sb_of (se_callR (i := 0) c_law_taken hr (by rfl) (sa_cons se_int sa_nil)))) (sa_cons (se_callR (i := 0) c_law_taken hr (by rfl) (sa_cons se_int sa_nil)) sa_nil))))))))
      (sss_cons (ss_set (i := 6) (sc_law_state.nd) rfl (by first | exact Or.inl rfl | exact Or.inr rfl) (sx_of (se_callTy cd_tuple (by rfl) z_tuple v_tuple (sbs_cons (sb_of (se_callB (cd_sortX (room66 hr)) (by rfl) z_sorted v_sorted (sbs_cons (sb_of (se_ofX (sx_lc (own := [("head", 7)]) rfl (sc_law_state.nd) (si_seq (se_callTy (cd_list rfl) (by rfl) z_list v_list (sbs_cons (sb_var 4) sbs_nil))) (blkOk_by (own := [("head", 7)]) (N := N_law_state) (sc := defScope s_law_state) (by decide +kernel)) (fun _ _ _ _ _ => sg_name 7 (vs := [7]) (sc_law_state.nd) rfl (by first | exact Or.inl rfl | exact Or.inr rfl) (by decide)) (fun _ _ _ _ _ => sts_nil) (fun _ _ _ _ _ => se_op od_addA (sb_var 7) (sb_of (se_tup (sa_cons (se_at (hu_of hr) (sb_var 4) (sb_var 7)) sa_nil))))))) sbs_nil))) sbs_nil))))
      (sss_cons (ss_if (st_cmp (od_eq hr.units) (sb_var 6) (sb_of (se_tup sa_nil)) (nomark _)) (sss_one (ss_ret (se_tup (sa_cons (se_or (se_var 2) (se_one (se_cmp (od_eq hr.units) (sb_of (se_callR (i := 0) c_law_taken hr (by rfl) (sa_cons se_int sa_nil))) (sb_of se_int) (nomark _)))) (sa_cons (se_var 6) sa_nil))))) sss_nil)
      (sss_one (ss_ret (se_tup (sa_cons (se_if (st_tru (sb_var 2)) (se_and (se_cmp (od_eq hr.units) (sb_var 3) (sb_of se_str) (nomark _)) (se_one (se_cmp (od_eq hr.units) (sb_of (se_callR (i := 0) c_law_taken hr (by rfl) (sa_cons se_int sa_nil))) (sb_of se_int) (nomark _)))) (se_cmp (od_eq hr.units) (sb_of (se_callR (i := 0) c_law_taken hr (by rfl) (sa_cons se_int sa_nil))) (sb_of se_int) (nomark _))) (sa_cons (se_var 6) sa_nil))))))))
theorem ok_law_part {f : Addr} {fd : FuncData} {k : Nat} (F : Fun K "_law_part" "_law_part" s_law_part f fd) (c_law_state : Callee P w K mg base k "_law_state" (spR K m_law_state)) (c_law_taken : Callee P w K mg base k "_law_taken" (spR K m_law_taken)) (z_tuple : mg "tuple" = none) (z_range : mg "range" = none) : FnOk P w K mg base CX0 (k + 1) f fd ["row", "most", "plain"] (spR K m_law_part) := by
  refine RT.ok_fnR F sc_law_part (by decide) (by decide) (fun cdv A outer s H E hr => ?_)
  unfold b_law_part
  exact sss_cons (ss_set (i := 3) (sc_law_part.nd) rfl (by first | exact Or.inl rfl | exact Or.inr rfl) (sx_of (se_op od_addA (sb_of se_int) (sb_of (se_callR (i := 0) c_law_taken hr (by rfl) (sa_cons (se_var 1) sa_nil))))))
      (sss_one (ss_ret (se_callTy cd_tuple (by rfl) z_tuple v_tuple (sbs_cons (sb_of (se_ofX (sx_lc (own := [("at", 4)]) rfl (sc_law_part.nd) (si_rg1 (by rfl) z_range (se_var 3)) (blkOk_by (own := [("at", 4)]) (N := N_law_part) (sc := defScope s_law_part) (by decide +kernel)) (fun _ _ _ _ _ => sg_name 4 (vs := [4]) (sc_law_part.nd) rfl (by first | exact Or.inl rfl | exact Or.inr rfl) (by decide)) (fun _ _ _ _ _ => sts_nil) (fun _ _ _ _ _ => se_callR (i := 0) c_law_state hr (by rfl) (sa_cons (se_var 3) (sa_cons (se_var 2) sa_nil)))))) sbs_nil))))
theorem ok_has_items {f : Addr} {fd : FuncData} {k : Nat} (F : Fun K "has_items" "has_items" s_has_items f fd) (z_len : mg "len" = none) (z_isinstance : mg "isinstance" = none) (z_tuple : mg "tuple" = none) : FnOk P w K mg base CX0 (k + 1) f fd ["value", "least", "most"] (spF K m_has_items) := by
  refine RT.ok_fn F sc_has_items (fun cdv A outer s H E hr => ?_)
  unfold b_has_items
  exact sss_one (ss_ret (se_and (se_isi (T := .tuple) (by rfl) z_isinstance (sb_var 0) (by rfl) z_tuple v_tuple) (se_one (se_chain od_le od_le (sb_var 1) (sb_of (se_callB cd_len (by rfl) z_len v_len (sbs_cons (sb_var 0) sbs_nil))) (sb_var 2)))))
theorem ok_is_rising {f : Addr} {fd : FuncData} {k : Nat} (F : Fun K "is_rising" "is_rising" s_is_rising f fd) (z_all : mg "all" = none) (z_range : mg "range" = none) (z_len : mg "len" = none) : FnOk P w K mg base CX0 (k + 1) f fd ["values"] (spF K m_is_rising) := by
  refine RT.ok_fn F sc_is_rising (fun cdv A outer s H E hr => ?_)
  unfold b_is_rising
  exact sss_one (ss_ret (se_callB (cd_all rfl) (by rfl) z_all v_all (sbs_cons (sb_of (se_ofX (sx_lc (own := [("at", 1)]) rfl (sc_is_rising.nd) (si_rg1 (by rfl) z_range (se_op od_sub (sb_of (se_callB cd_len (by rfl) z_len v_len (sbs_cons (sb_var 0) sbs_nil))) (sb_of se_int))) (blkOk_by (own := [("at", 1)]) (N := N_is_rising) (sc := defScope s_is_rising) (by decide +kernel)) (fun _ _ _ _ _ => sg_name 1 (vs := [1]) (sc_is_rising.nd) rfl (by first | exact Or.inl rfl | exact Or.inr rfl) (by decide)) (fun _ _ _ _ _ => sts_nil) (fun _ _ _ _ _ => se_cmp (od_ltX hr.units) (sb_of (se_at (hu_of hr) (sb_var 0) (sb_var 1))) (sb_of (se_at (hu_of hr) (sb_var 0) (sb_of (se_op od_addA (sb_var 1) (sb_of se_int))))) (nomark _))))) sbs_nil)))
theorem ok_is_number {f : Addr} {fd : FuncData} {k : Nat} (F : Fun K "is_number" "is_number" s_is_number f fd) (z_isinstance : mg "isinstance" = none) (z_bool : mg "bool" = none) (z_int : mg "int" = none) : FnOk P w K mg base CX0 (k + 1) f fd ["value", "least", "most"] (spF K m_is_number) := by
  refine RT.ok_fn F sc_is_number (fun cdv A outer s H E hr => ?_)
  unfold b_is_number
  exact sss_one (ss_ret (se_and (se_isi (T := .int) (by rfl) z_isinstance (sb_var 0) (by rfl) z_int v_int) (se_and (se_not (se_isi (T := .bool) (by rfl) z_isinstance (sb_var 0) (by rfl) z_bool v_bool)) (se_one (se_chain od_le od_le (sb_var 1) (sb_var 0) (sb_var 2))))))
theorem ok_is_event {f : Addr} {fd : FuncData} {k : Nat} (F : Fun K "is_event" "is_event" s_is_event f fd) (c_is_number : Callee P w K mg base k "is_number" (spF K m_is_number)) (c_has_items : Callee P w K mg base k "has_items" (spF K m_has_items)) {ad_KINDS : Addr} {oc_KINDS : Value} {od_KINDS : Option Addr} {is_KINDS : Array Value} {no_KINDS : Nat} {sl_KINDS : Array (Option Value)} (l_KINDS : K.lookup ad_KINDS = some ⟨oc_KINDS, od_KINDS, .seq is_KINDS no_KINDS, sl_KINDS⟩) (e_KINDS : oc_KINDS = .type "tuple") (n_KINDS : is_KINDS.size ≤ sizeLine) (v_KINDS : Vals ([Str.ofString "hear", Str.ofString "say"].map V.str) is_KINDS.toList) (m_KINDS : mg "KINDS" = some (.ref ad_KINDS)) {t_LAST_WORD : Tok} (k_LAST_WORD : mg "LAST_WORD" = some (.int 5 t_LAST_WORD)) {t_LAST_ACTOR : Tok} (k_LAST_ACTOR : mg "LAST_ACTOR" = some (.int 3 t_LAST_ACTOR)) : FnOk P w K mg base CX0 (k + 1) f fd ["value"] (spF K m_is_event) := by
  refine RT.ok_fn F sc_is_event (fun cdv A outer s H E hr => ?_)
  unfold b_is_event
  exact sss_cons (ss_if (st_not (st_tru (sb_of (se_call c_has_items hr (by rfl) (sa_cons (se_var 0) (sa_cons se_int (sa_cons se_int sa_nil))))))) (sss_one (ss_ret se_bl)) sss_nil)
      (sss_cons (ss_unp (se_var 0) (sg_tup (n := 3) rfl (sgs_cons (sg_name 1 (vs := [1, 2, 3]) (sc_is_event.nd) rfl (by first | exact Or.inl rfl | exact Or.inr rfl) (by decide)) (sgs_cons (sg_name 2 (vs := [1, 2, 3]) (sc_is_event.nd) rfl (by first | exact Or.inl rfl | exact Or.inr rfl) (by decide)) (sgs_cons (sg_name 3 (vs := [1, 2, 3]) (sc_is_event.nd) rfl (by first | exact Or.inl rfl | exact Or.inr rfl) (by decide)) sgs_nil)))))
      (sss_one (ss_ret (se_and (se_inS [Str.ofString "hear", Str.ofString "say"] (by rfl) m_KINDS l_KINDS e_KINDS rfl n_KINDS v_KINDS (sb_var 1)) (se_and (se_call c_is_number hr (by rfl) (sa_cons (se_var 2) (sa_cons se_int (sa_cons (se_glob (v := .int 3) (by rfl) k_LAST_ACTOR ⟨_, rfl⟩ (fun _ _ _ => .int _)) sa_nil)))) (se_one (se_call c_is_number hr (by rfl) (sa_cons (se_var 3) (sa_cons se_int (sa_cons (se_glob (v := .int 5) (by rfl) k_LAST_WORD ⟨_, rfl⟩ (fun _ _ _ => .int _)) sa_nil))))))))))
theorem ok_is_step {f : Addr} {fd : FuncData} {k : Nat} (F : Fun K "is_step" "is_step" s_is_step f fd) (c_is_number : Callee P w K mg base k "is_number" (spF K m_is_number)) (c_is_event : Callee P w K mg base k "is_event" (spF K m_is_event)) (c_has_items : Callee P w K mg base k "has_items" (spF K m_has_items)) : FnOk P w K mg base CX0 (k + 1) f fd ["value", "many"] (spF K m_is_step) := by
  refine RT.ok_fn F sc_is_step (fun cdv A outer s H E hr => ?_)
  unfold b_is_step
  exact sss_one (ss_ret (se_and (se_call c_has_items hr (by rfl) (sa_cons (se_var 0) (sa_cons se_int (sa_cons se_int sa_nil)))) (se_and (se_call c_is_event hr (by rfl) (sa_cons (se_sl (sb_var 0) so_none (so_some se_int)) sa_nil)) (se_one (se_call c_is_number hr (by rfl) (sa_cons (se_at (hu_of hr) (sb_var 0) (sb_of se_int)) (sa_cons se_int (sa_cons (se_op od_sub (sb_var 1) (sb_of se_int)) sa_nil))))))))
theorem ok_is_state {f : Addr} {fd : FuncData} {k : Nat} (F : Fun K "is_state" "is_state" s_is_state f fd) (c_is_rising : Callee P w K mg base k "is_rising" (spF K m_is_rising)) (c_is_step : Callee P w K mg base k "is_step" (spF K m_is_step)) (c_has_items : Callee P w K mg base k "has_items" (spF K m_has_items)) (z_all : mg "all" = none) (z_isinstance : mg "isinstance" = none) (z_tuple : mg "tuple" = none) (z_bool : mg "bool" = none) : FnOk P w K mg base CX0 (k + 1) f fd ["value", "many"] (spF K m_is_state) := by
  refine RT.ok_fn F sc_is_state (fun cdv A outer s H E hr => ?_)
  unfold b_is_state
  exact sss_cons (ss_if (st_not (st_tru (sb_of (se_call c_has_items hr (by rfl) (sa_cons (se_var 0) (sa_cons se_int (sa_cons se_int sa_nil))))))) (sss_one (ss_ret se_bl)) sss_nil)
      (sss_cons (ss_unp (se_var 0) (sg_tup (n := 2) rfl (sgs_cons (sg_name 2 (vs := [2, 3]) (sc_is_state.nd) rfl (by first | exact Or.inl rfl | exact Or.inr rfl) (by decide)) (sgs_cons (sg_name 3 (vs := [2, 3]) (sc_is_state.nd) rfl (by first | exact Or.inl rfl | exact Or.inr rfl) (by decide)) sgs_nil))))
      (sss_cons (ss_if (st_w (sw_or (st_not (st_tru (sb_of (se_isi (T := .bool) (by rfl) z_isinstance (sb_var 2) (by rfl) z_bool v_bool)))) (sw_or1 (st_not (st_tru (sb_of (se_isi (T := .tuple) (by rfl) z_isinstance (sb_var 3) (by rfl) z_tuple v_tuple))))))) (sss_one (ss_ret se_bl)) sss_nil)
      (sss_cons (ss_if (st_not (st_tru (sb_of (se_callB (cd_all rfl) (by rfl) z_all v_all (sbs_cons (sb_of (se_ofX (sx_lc (own := [("step", 4)]) rfl (sc_is_state.nd) (si_seq (se_var 3)) (blkOk_by (own := [("step", 4)]) (N := N_is_state) (sc := defScope s_is_state) (by decide +kernel)) (fun _ _ _ _ _ => sg_name 4 (vs := [4]) (sc_is_state.nd) rfl (by first | exact Or.inl rfl | exact Or.inr rfl) (by decide)) (fun _ _ _ _ _ => sts_nil) (fun _ _ _ _ _ => se_call c_is_step hr (by rfl) (sa_cons (se_var 4) (sa_cons (se_var 1) sa_nil)))))) sbs_nil))))) (sss_one (ss_ret se_bl)) sss_nil)
      (sss_one (ss_ret (se_call c_is_rising hr (by rfl) (sa_cons (se_ofX (sx_lc (own := [("step", 4)]) rfl (sc_is_state.nd) (si_seq (se_var 3)) (blkOk_by (own := [("step", 4)]) (N := N_is_state) (sc := defScope s_is_state) (by decide +kernel)) (fun _ _ _ _ _ => sg_name 4 (vs := [4]) (sc_is_state.nd) rfl (by first | exact Or.inl rfl | exact Or.inr rfl) (by decide)) (fun _ _ _ _ _ => sts_nil) (fun _ _ _ _ _ => se_sl (sb_var 4) so_none (so_some se_int)))) sa_nil)))))))
theorem ok_check_part {f : Addr} {fd : FuncData} {k : Nat} (F : Fun K "check_part" "check_part" s_check_part f fd) (c_is_state : Callee P w K mg base k "is_state" (spF K m_is_state)) (c_has_items : Callee P w K mg base k "has_items" (spF K m_has_items)) (z_enumerate : mg "enumerate" = none) (z_len : mg "len" = none) {t_MOST_STATES : Tok} (k_MOST_STATES : mg "MOST_STATES" = some (.int 255 t_MOST_STATES)) : FnOk P w K mg base CX0 (k + 1) f fd ["part"] (spF K m_check_part) := by
  refine RT.ok_fn F sc_check_part (fun cdv A outer s H E hr => ?_)
  unfold b_check_part
  exact sss_cons (ss_if (st_not (st_tru (sb_of (se_call c_has_items hr (by rfl) (sa_cons (se_var 0) (sa_cons se_int (sa_cons (se_glob (v := .int 255) (by rfl) k_MOST_STATES ⟨_, rfl⟩ (fun _ _ _ => .int _)) sa_nil))))))) (sss_one ss_no) sss_nil)
      (sss_one (ss_for PassesOwn.never rfl (si_en (by rfl) z_enumerate (se_var 0)) (sg_tup (n := 2) rfl (sgs_cons (sg_name 1 (vs := [1, 2]) (sc_check_part.nd) rfl (by first | exact Or.inl rfl | exact Or.inr rfl) (by decide)) (sgs_cons (sg_name 2 (vs := [1, 2]) (sc_check_part.nd) rfl (by first | exact Or.inl rfl | exact Or.inr rfl) (by decide)) sgs_nil))) (sss_one (ss_if (st_not (st_tru (sb_of (se_call c_is_state hr (by rfl) (sa_cons (se_var 2) (sa_cons (se_callB cd_len (by rfl) z_len v_len (sbs_cons (sb_var 0) sbs_nil)) sa_nil)))))) (sss_one ss_no) sss_nil))))
theorem ok_numbered {f : Addr} {fd : FuncData} {k : Nat} (F : Fun K "numbered" "numbered" s_numbered f fd) (z_len : mg "len" = none) : FnOk P w K mg base CX0 (k + 1) f fd ["marks"] (spF K m_numbered) := by
  refine FnOk.imp (RT.ok_fn (body := b_numbered) F sc_numbered (fun cdv A outer s H E hr => ?_)) (fun vs H Q E h => spF_imp pure_numbered h)
  unfold b_numbered
  exact sss_cons (ss_set (i := 1) (sc_numbered.nd) rfl (by first | exact Or.inl rfl | exact Or.inr rfl) sx_dA)
      (sss_cons (ss_for PassesOwn.never rfl (si_seq (se_var 0)) (sg_name 2 (vs := [2]) (sc_numbered.nd) rfl (by first | exact Or.inl rfl | exact Or.inr rfl) (by decide)) (sss_one (ss_setA (i := 1) (hu16 hr) (se_var 2) (by rfl) z_len v_len)))
      (sss_one (ss_ret (se_ofX (sx_lc (own := [("mark", 2)]) rfl (sc_numbered.nd) (si_seq (se_var 0)) (blkOk_by (own := [("mark", 2)]) (N := N_numbered) (sc := defScope s_numbered) (by decide +kernel)) (fun _ _ _ _ _ => sg_name 2 (vs := [2]) (sc_numbered.nd) rfl (by first | exact Or.inl rfl | exact Or.inr rfl) (by decide)) (fun _ _ _ _ _ => sts_nil) (fun _ _ _ _ _ => se_atA (i := 1) (hu16 hr) (se_var 2)))))))
theorem ok_renamed_state {f : Addr} {fd : FuncData} {k : Nat} (F : Fun K "renamed_state" "renamed_state" s_renamed_state f fd) (z_tuple : mg "tuple" = none) : FnOk P w K mg base CX0 (k + 1) f fd ["state", "names"] (spF K m_renamed_state) := by
  refine RT.ok_fn F sc_renamed_state (fun cdv A outer s H E hr => ?_)
  unfold b_renamed_state
  exact sss_cons (ss_unp (se_var 0) (sg_tup (n := 2) rfl (sgs_cons (sg_name 2 (vs := [2, 3]) (sc_renamed_state.nd) rfl (by first | exact Or.inl rfl | exact Or.inr rfl) (by decide)) (sgs_cons (sg_name 3 (vs := [2, 3]) (sc_renamed_state.nd) rfl (by first | exact Or.inl rfl | exact Or.inr rfl) (by decide)) sgs_nil))))
      (sss_one (ss_ret (se_tup (sa_cons (se_var 2) (sa_cons (se_callTy cd_tuple (by rfl) z_tuple v_tuple (sbs_cons (sb_of (se_ofX (sx_lc (own := [("kind", 4), ("other", 5), ("word", 6), ("there", 7)]) rfl (sc_renamed_state.nd) (si_seq (se_var 3)) (blkOk_by (own := [("kind", 4), ("other", 5), ("word", 6), ("there", 7)]) (N := N_renamed_state) (sc := defScope s_renamed_state) (by decide +kernel)) (fun _ _ _ _ _ => sg_tup (n := 4) rfl (sgs_cons (sg_name 4 (vs := [4, 5, 6, 7]) (sc_renamed_state.nd) rfl (by first | exact Or.inl rfl | exact Or.inr rfl) (by decide)) (sgs_cons (sg_name 5 (vs := [4, 5, 6, 7]) (sc_renamed_state.nd) rfl (by first | exact Or.inl rfl | exact Or.inr rfl) (by decide)) (sgs_cons (sg_name 6 (vs := [4, 5, 6, 7]) (sc_renamed_state.nd) rfl (by first | exact Or.inl rfl | exact Or.inr rfl) (by decide)) (sgs_cons (sg_name 7 (vs := [4, 5, 6, 7]) (sc_renamed_state.nd) rfl (by first | exact Or.inl rfl | exact Or.inr rfl) (by decide)) sgs_nil))))) (fun _ _ _ _ _ => sts_nil) (fun _ _ _ _ _ => se_tup (sa_cons (se_var 4) (sa_cons (se_var 5) (sa_cons (se_var 6) (sa_cons (se_at (hu_of hr) (sb_var 1) (sb_var 7)) sa_nil)))))))) sbs_nil)) sa_nil)))))
theorem ok_alike_groups {f : Addr} {fd : FuncData} {k : Nat} (F : Fun K "alike_groups" "alike_groups" s_alike_groups f fd) (c_numbered : Callee P w K mg base k "numbered" (spF K m_numbered)) (c_renamed_state : Callee P w K mg base k "renamed_state" (spF K m_renamed_state)) (z_max : mg "max" = none) (z_range : mg "range" = none) (z_len : mg "len" = none) : FnOk P w K mg base CX0 (k + 1) f fd ["part"] (spF K m_alike_groups) := by
  refine RT.ok_fn F sc_alike_groups (fun cdv A outer s H E hr => ?_)
  unfold b_alike_groups
  exact sss_cons (ss_set (i := 1) (sc_alike_groups.nd) rfl (by first | exact Or.inl rfl | exact Or.inr rfl) (sx_of (se_call c_numbered hr (by rfl) (sa_cons (se_ofX (sx_lc (own := [("rest", 3), ("_", 4)]) rfl (sc_alike_groups.nd) (si_seq (se_var 0)) (blkOk_by (own := [("rest", 3), ("_", 4)]) (N := N_alike_groups) (sc := defScope s_alike_groups) (by decide +kernel)) (fun _ _ _ _ _ => sg_tup (n := 2) rfl (sgs_cons (sg_name 3 (vs := [3, 4]) (sc_alike_groups.nd) rfl (by first | exact Or.inl rfl | exact Or.inr rfl) (by decide)) (sgs_cons (sg_name 4 (vs := [3, 4]) (sc_alike_groups.nd) rfl (by first | exact Or.inl rfl | exact Or.inr rfl) (by decide)) sgs_nil))) (fun _ _ _ _ _ => sts_nil) (fun _ _ _ _ _ => se_var 3))) sa_nil))))
      (sss_one (ss_while 1000 PassesOwn.never (st_tru (sb_of se_bl)) (sss_cons (ss_set (i := 2) (sc_alike_groups.nd) rfl (by first | exact Or.inl rfl | exact Or.inr rfl) (sx_of (se_call c_numbered hr (by rfl) (sa_cons (se_ofX (sx_lc (own := [("at", 5)]) rfl (sc_alike_groups.nd) (si_rg1 (by rfl) z_range (se_callB cd_len (by rfl) z_len v_len (sbs_cons (sb_var 0) sbs_nil))) (blkOk_by (own := [("at", 5)]) (N := N_alike_groups) (sc := defScope s_alike_groups) (by decide +kernel)) (fun _ _ _ _ _ => sg_name 5 (vs := [5]) (sc_alike_groups.nd) rfl (by first | exact Or.inl rfl | exact Or.inr rfl) (by decide)) (fun _ _ _ _ _ => sts_nil) (fun _ _ _ _ _ => se_tup (sa_cons (se_at (hu_of hr) (sb_var 1) (sb_var 5)) (sa_cons (se_call c_renamed_state hr (by rfl) (sa_cons (se_at (hu_of hr) (sb_var 0) (sb_var 5)) (sa_cons (se_var 1) sa_nil))) sa_nil))))) sa_nil))))
      (sss_cons (ss_if (st_cmp (od_eq hr.units) (sb_of (se_callB (cd_max rfl) (by rfl) z_max v_max (sbs_cons (sb_var 2) sbs_nil))) (sb_of (se_callB (cd_max rfl) (by rfl) z_max v_max (sbs_cons (sb_var 1) sbs_nil))) (nomark _)) (sss_one (ss_ret (se_var 1))) sss_nil)
      (sss_one (ss_set (i := 1) (sc_alike_groups.nd) rfl (by first | exact Or.inl rfl | exact Or.inr rfl) (sx_of (se_var 2))))))))
theorem ok_coming {f : Addr} {fd : FuncData} {k : Nat} (F : Fun K "coming" "coming" s_coming f fd) (z_len : mg "len" = none) : FnOk P w K mg base CX0 (k + 1) f fd ["web", "start"] (spF K m_coming) := by
  refine RT.ok_fn F sc_coming (fun cdv A outer s H E hr => ?_)
  unfold b_coming
  exact sss_cons (ss_set (i := 2) (sc_coming.nd) rfl (by first | exact Or.inl rfl | exact Or.inr rfl) (sx_lst (sa_cons (se_var 1) sa_nil)))
      (sss_cons (ss_set (i := 3) (sc_coming.nd) rfl (by first | exact Or.inl rfl | exact Or.inr rfl) (sx_d1 (se_var 1) se_bl))
      (sss_cons (ss_set (i := 4) (sc_coming.nd) rfl (by first | exact Or.inl rfl | exact Or.inr rfl) (sx_of se_int))
      (sss_cons (ss_while 1000 PassesOwn.never (st_cmp (od_ltX hr.units) (sb_var 4) (sb_of (se_callB cd_len (by rfl) z_len v_len (sbs_cons (sb_var 2) sbs_nil))) (nomark _)) (sss_cons (ss_set (i := 5) (sc_coming.nd) rfl (by first | exact Or.inl rfl | exact Or.inr rfl) (sx_of (se_at (hu_of hr) (sb_var 2) (sb_var 4))))
      (sss_cons (ss_for PassesOwn.never rfl (si_seq (se_at (hu_of hr) (sb_var 0) (sb_var 5))) (sg_tup (n := 2) rfl (sgs_cons (sg_name 6 (vs := [6, 7]) (sc_coming.nd) rfl (by first | exact Or.inl rfl | exact Or.inr rfl) (by decide)) (sgs_cons (sg_name 7 (vs := [6, 7]) (sc_coming.nd) rfl (by first | exact Or.inl rfl | exact Or.inr rfl) (by decide)) sgs_nil))) (sss_one (ss_if (st_notInA (room65 hr) (sb_var 7) (sb_var 3)) (sss_cons (ss_dput (i := 3) (hu_of hr) se_bl (se_var 7))
      (sss_one (ss_app (i := 2) (se_var 7)))) sss_nil)))
      (sss_one (ss_aug (sc_coming.nd) rfl (by first | exact Or.inl rfl | exact Or.inr rfl) se_int)))))
      (sss_one (ss_frz 2 (ss_ret (se_var 2)))))))
theorem ok_new_names {f : Addr} {fd : FuncData} {k : Nat} (F : Fun K "new_names" "new_names" s_new_names f fd) (z_enumerate : mg "enumerate" = none) : FnOk P w K mg base CX0 (k + 1) f fd ["order"] (spF K m_new_names) := by
  refine RT.ok_fn F sc_new_names (fun cdv A outer s H E hr => ?_)
  unfold b_new_names
  exact sss_one (ss_ret (se_ofX (sx_dc (own := [("at", 1), ("place", 2)]) rfl (sc_new_names.nd) (si_en (by rfl) z_enumerate (se_var 0)) (blkOk_by (own := [("at", 1), ("place", 2)]) (N := N_new_names) (sc := defScope s_new_names) (by decide +kernel)) (fun _ _ _ _ _ => sg_tup (n := 2) rfl (sgs_cons (sg_name 1 (vs := [1, 2]) (sc_new_names.nd) rfl (by first | exact Or.inl rfl | exact Or.inr rfl) (by decide)) (sgs_cons (sg_name 2 (vs := [1, 2]) (sc_new_names.nd) rfl (by first | exact Or.inl rfl | exact Or.inr rfl) (by decide)) sgs_nil))) (fun _ _ _ _ _ => sts_nil) (fun _ _ _ _ _ => se_var 2) (fun _ _ _ _ _ => se_var 1))))
theorem ok_event_web {f : Addr} {fd : FuncData} {k : Nat} (F : Fun K "event_web" "event_web" s_event_web f fd) : FnOk P w K mg base CX0 (k + 1) f fd ["part"] (spF K m_event_web) := by
  refine RT.ok_fn F sc_event_web (fun cdv A outer s H E hr => ?_)
  unfold b_event_web
  exact sss_one (ss_ret (se_ofX (sx_lc (own := [("_", 1), ("steps", 2)]) rfl (sc_event_web.nd) (si_seq (se_var 0)) (blkOk_by (own := [("_", 1), ("steps", 2)]) (N := N_event_web) (sc := defScope s_event_web) (by decide +kernel)) (fun _ _ _ _ _ => sg_tup (n := 2) rfl (sgs_cons (sg_name 1 (vs := [1, 2]) (sc_event_web.nd) rfl (by first | exact Or.inl rfl | exact Or.inr rfl) (by decide)) (sgs_cons (sg_name 2 (vs := [1, 2]) (sc_event_web.nd) rfl (by first | exact Or.inl rfl | exact Or.inr rfl) (by decide)) sgs_nil))) (fun _ _ _ _ _ => sts_nil) (fun _ _ _ _ _ => se_ofX (sx_lc (own := [("step", 3)]) rfl (sc_event_web.nd) (si_seq (se_var 2)) (by dsimp only [L2.Cx.blk, compEnvC]; exact blkOk_by (own := [("step", 3)]) (N := N_event_web) (by first | rfl | kernel_rfl)) (fun _ _ _ _ _ => sg_name 3 (vs := [3]) (sc_event_web.nd) rfl (by first | exact Or.inl rfl | exact Or.inr rfl) (by decide)) (fun _ _ _ _ _ => sts_nil) (fun _ _ _ _ _ => se_tup (sa_cons (se_sl (sb_var 3) so_none (so_some se_int)) (sa_cons (se_at (hu_of hr) (sb_var 3) (sb_of se_int)) sa_nil))))))))
theorem ok_part_that_comes {f : Addr} {fd : FuncData} {k : Nat} (F : Fun K "part_that_comes" "part_that_comes" s_part_that_comes f fd) (c_renamed_state : Callee P w K mg base k "renamed_state" (spF K m_renamed_state)) (c_new_names : Callee P w K mg base k "new_names" (spF K m_new_names)) (c_coming : Callee P w K mg base k "coming" (spF K m_coming)) (c_event_web : Callee P w K mg base k "event_web" (spF K m_event_web)) (z_tuple : mg "tuple" = none) : FnOk P w K mg base CX0 (k + 1) f fd ["part"] (spF K m_part_that_comes) := by
  refine RT.ok_fn F sc_part_that_comes (fun cdv A outer s H E hr => ?_)
  unfold b_part_that_comes
  exact sss_cons (ss_set (i := 1) (sc_part_that_comes.nd) rfl (by first | exact Or.inl rfl | exact Or.inr rfl) (sx_of (se_call c_coming hr (by rfl) (sa_cons (se_call c_event_web hr (by rfl) (sa_cons (se_var 0) sa_nil)) (sa_cons se_int sa_nil)))))
      (sss_cons (ss_set (i := 2) (sc_part_that_comes.nd) rfl (by first | exact Or.inl rfl | exact Or.inr rfl) (sx_of (se_call c_new_names hr (by rfl) (sa_cons (se_var 1) sa_nil))))
      (sss_one (ss_ret (se_callTy cd_tuple (by rfl) z_tuple v_tuple (sbs_cons (sb_of (se_ofX (sx_lc (own := [("state", 3)]) rfl (sc_part_that_comes.nd) (si_seq (se_var 1)) (blkOk_by (own := [("state", 3)]) (N := N_part_that_comes) (sc := defScope s_part_that_comes) (by decide +kernel)) (fun _ _ _ _ _ => sg_name 3 (vs := [3]) (sc_part_that_comes.nd) rfl (by first | exact Or.inl rfl | exact Or.inr rfl) (by decide)) (fun _ _ _ _ _ => sts_nil) (fun _ _ _ _ _ => se_call c_renamed_state hr (by rfl) (sa_cons (se_at (hu_of hr) (sb_var 0) (sb_var 3)) (sa_cons (se_var 2) sa_nil)))))) sbs_nil)))))
theorem ok_part_of_fewest {f : Addr} {fd : FuncData} {k : Nat} (F : Fun K "part_of_fewest" "part_of_fewest" s_part_of_fewest f fd) (c_part_that_comes : Callee P w K mg base k "part_that_comes" (spF K m_part_that_comes)) (c_renamed_state : Callee P w K mg base k "renamed_state" (spF K m_renamed_state)) (c_alike_groups : Callee P w K mg base k "alike_groups" (spF K m_alike_groups)) (z_tuple : mg "tuple" = none) (z_range : mg "range" = none) (z_max : mg "max" = none) : FnOk P w K mg base CX0 (k + 1) f fd ["part"] (spF K m_part_of_fewest) := by
  refine RT.ok_fn F sc_part_of_fewest (fun cdv A outer s H E hr => ?_)
  unfold b_part_of_fewest
  exact sss_cons (ss_set (i := 1) (sc_part_of_fewest.nd) rfl (by first | exact Or.inl rfl | exact Or.inr rfl) (sx_of (se_call c_alike_groups hr (by rfl) (sa_cons (se_var 0) sa_nil))))
      (sss_cons (ss_setLc (i := 2) (own := [("group", 3)]) rfl (sc_part_of_fewest.nd) rfl rfl (sw_true rfl rfl rfl (by decide +kernel)) (si_rg1 (by rfl) z_range (se_op od_addA (sb_of (se_callB (cd_max rfl) (by rfl) z_max v_max (sbs_cons (sb_var 1) sbs_nil))) (sb_of se_int))) (blkOk_by (own := [("group", 3)]) (N := N_part_of_fewest) (sc := defScope s_part_of_fewest) (by decide +kernel)) (fun _ _ _ _ _ => sg_name 3 (vs := [3]) (sc_part_of_fewest.nd) rfl (by first | exact Or.inl rfl | exact Or.inr rfl) (by decide)) (fun _ _ _ _ _ => sts_nil) (fun _ _ _ _ _ => se_index (room65 hr) (sb_var 1) (sb_var 3)) (tr := (fun f => xVal (fOfX f))) (htr := (.inr rfl)))
      (sss_one (ss_ret (se_call c_part_that_comes hr (by rfl) (sa_cons (se_callTy cd_tuple (by rfl) z_tuple v_tuple (sbs_cons (sb_of (se_ofX (sx_lc (own := [("state", 4)]) rfl (sc_part_of_fewest.nd) (si_seq (se_var 2)) (blkOk_by (own := [("state", 4)]) (N := N_part_of_fewest) (sc := defScope s_part_of_fewest) (by decide +kernel)) (fun _ _ _ _ _ => sg_name 4 (vs := [4]) (sc_part_of_fewest.nd) rfl (by first | exact Or.inl rfl | exact Or.inr rfl) (by decide)) (fun _ _ _ _ _ => sts_nil) (fun _ _ _ _ _ => se_call c_renamed_state hr (by rfl) (sa_cons (se_at (hu_of hr) (sb_var 0) (sb_var 4)) (sa_cons (se_var 1) sa_nil)))))) sbs_nil)) sa_nil)))))
theorem ok_least_part {f : Addr} {fd : FuncData} {k : Nat} (F : Fun K "least_part" "least_part" s_least_part f fd) (c_part_of_fewest : Callee P w K mg base k "part_of_fewest" (spF K m_part_of_fewest)) (c_check_part : Callee P w K mg base k "check_part" (spF K m_check_part)) : FnOk P w K mg base CX0 (k + 1) f fd ["part"] (spF K m_least_part) := by
  refine RT.ok_fn F sc_least_part (fun cdv A outer s H E hr => ?_)
  unfold b_least_part
  exact sss_cons (ss_drop (se_call c_check_part hr (by rfl) (sa_cons (se_var 0) sa_nil)))
      (sss_one (ss_ret (se_call c_part_of_fewest hr (by rfl) (sa_cons (se_var 0) sa_nil))))
theorem okr_law_alike {f : Addr} {fd : FuncData} {k : Nat} {rec : List D → Option D} (F : Fun K "_law_alike" "_law_alike" s_law_alike f fd) (c_law_alike : Callee P w K mg base k "_law_alike" (spF K rec)) (z_isinstance : mg "isinstance" = none) (z_bool : mg "bool" = none) (z_int : mg "int" = none) (z_str : mg "str" = none) (z_tuple : mg "tuple" = none) (z_list : mg "list" = none) (z_range : mg "range" = none) (z_len : mg "len" = none) : FnOk P w K mg base CX0 (k + 1) f fd ["found", "due"] (spF K (mkF 3 2 (b_law_alike rec))) := by
  refine RT.ok_fn F sc_law_alike (fun cdv A outer s H E hr => ?_)
  unfold b_law_alike
  exact sss_cons (ss_if (st_tru (sb_of (se_isi2 (T := .tuple) (U := .list) (by rfl) z_isinstance (sb_var 1) (by rfl) z_tuple v_tuple (by rfl) z_list v_list))) (sss_cons (ss_if (st_w (sw_or (st_not (st_tru (sb_of (se_isi2 (T := .tuple) (U := .list) (by rfl) z_isinstance (sb_var 0) (by rfl) z_tuple v_tuple (by rfl) z_list v_list)))) (sw_or1 (st_cmp (od_ne hr.units) (sb_of (se_isi (T := .list) (by rfl) z_isinstance (sb_var 0) (by rfl) z_list v_list)) (sb_of (se_isi (T := .list) (by rfl) z_isinstance (sb_var 1) (by rfl) z_list v_list)) (nomark _))))) (sss_one (ss_ret se_bl)) sss_nil)
      (sss_cons (ss_if (st_cmp (od_ne hr.units) (sb_of (se_callB cd_len (by rfl) z_len v_len (sbs_cons (sb_var 0) sbs_nil))) (sb_of (se_callB cd_len (by rfl) z_len v_len (sbs_cons (sb_var 1) sbs_nil))) (nomark _)) (sss_one (ss_ret se_bl)) sss_nil)
      (sss_one (ss_ret (se_cmp (od_eq hr.units) (sb_of (se_ofX (sx_lc (own := [("k", 2)]) rfl (sc_law_alike.nd) (si_rg1 (by rfl) z_range (se_callB cd_len (by rfl) z_len v_len (sbs_cons (sb_var 1) sbs_nil))) (blkOk_by (own := [("k", 2)]) (N := N_law_alike) (sc := defScope s_law_alike) (by decide +kernel)) (fun _ _ _ _ _ => sg_name 2 (vs := [2]) (sc_law_alike.nd) rfl (by first | exact Or.inl rfl | exact Or.inr rfl) (by decide)) (fun _ _ _ _ _ => sts_one (st_not (st_tru (sb_of (se_call c_law_alike hr (by rfl) (sa_cons (se_at (hu_of hr) (sb_var 0) (sb_var 2)) (sa_cons (se_at (hu_of hr) (sb_var 1) (sb_var 2)) sa_nil))))))) (fun _ _ _ _ _ => se_var 2)))) (sb_of (se_lst sa_nil)) (nomark _)))))) sss_nil)
      (sss_cons (ss_if (st_w (sw_or (st_cmp od_isN (sb_var 1) (sb_of se_non) (nomark _)) (sw_or1 (st_tru (sb_of (se_isi (T := .str) (by rfl) z_isinstance (sb_var 1) (by rfl) z_str v_str)))))) (sss_one (ss_ret (se_and (se_cmp (od_eq hr.units) (sb_var 0) (sb_var 1) (nomark _)) (se_one (se_cmp (od_eq hr.units) (sb_of (se_isi (T := .str) (by rfl) z_isinstance (sb_var 0) (by rfl) z_str v_str)) (sb_of (se_isi (T := .str) (by rfl) z_isinstance (sb_var 1) (by rfl) z_str v_str)) (nomark _)))))) sss_nil)
      (sss_one (ss_ret (se_and (se_isi (T := .int) (by rfl) z_isinstance (sb_var 0) (by rfl) z_int v_int) (se_and (se_cmp (od_eq hr.units) (sb_of (se_isi (T := .bool) (by rfl) z_isinstance (sb_var 0) (by rfl) z_bool v_bool)) (sb_of (se_isi (T := .bool) (by rfl) z_isinstance (sb_var 1) (by rfl) z_bool v_bool)) (nomark _)) (se_one (se_cmp (od_eq hr.units) (sb_var 0) (sb_var 1) (nomark _))))))))
theorem ok_law_alike {f : Addr} {fd : FuncData} {k : Nat} (F : Fun K "_law_alike" "_law_alike" s_law_alike f fd) (hm : mg "_law_alike" = some (.ref f)) (hb : Binds K fd ["found", "due"] []) (z_isinstance : mg "isinstance" = none) (z_bool : mg "bool" = none) (z_int : mg "int" = none) (z_str : mg "str" = none) (z_tuple : mg "tuple" = none) (z_list : mg "list" = none) (z_range : mg "range" = none) (z_len : mg "len" = none) : ∀ n : Nat, FnOk P w K mg base CX0 (k + n) f fd ["found", "due"] (spF K (m_law_alike n))
  | 0 => ok_none
  | n + 1 => okr_law_alike (k := k + n) F ⟨f, fd, _, ok_law_alike F hm hb z_isinstance z_bool z_int z_str z_tuple z_list z_range z_len n, hm, F.kp, hb⟩ z_isinstance z_bool z_int z_str z_tuple z_list z_range z_len
theorem ok_same_parts {f : Addr} {fd : FuncData} {k : Nat} (F : Fun K "same_parts" "same_parts" s_same_parts f fd) (c_least_part : Callee P w K mg base k "least_part" (spF K m_least_part)) : FnOk P w K mg base CX0 (k + 1) f fd ["one", "other"] (spF K m_same_parts) := by
  refine RT.ok_fn F sc_same_parts (fun cdv A outer s H E hr => ?_)
  unfold b_same_parts
  exact sss_one (ss_ret (se_cmp (od_eq hr.units) (sb_of (se_call c_least_part hr (by rfl) (sa_cons (se_var 0) sa_nil))) (sb_of (se_call c_least_part hr (by rfl) (sa_cons (se_var 1) sa_nil))) (nomark _)))
theorem ok_count_states {f : Addr} {fd : FuncData} {k : Nat} (F : Fun K "count_states" "count_states" s_count_states f fd) (c_least_part : Callee P w K mg base k "least_part" (spF K m_least_part)) (z_len : mg "len" = none) : FnOk P w K mg base CX0 (k + 1) f fd ["part"] (spF K m_count_states) := by
  refine RT.ok_fn F sc_count_states (fun cdv A outer s H E hr => ?_)
  unfold b_count_states
  exact sss_one (ss_ret (se_callB cd_len (by rfl) z_len v_len (sbs_cons (sb_of (se_call c_least_part hr (by rfl) (sa_cons (se_var 0) sa_nil))) sbs_nil)))
theorem ok_trimmed_part {f : Addr} {fd : FuncData} {k : Nat} (F : Fun K "trimmed_part" "trimmed_part" s_trimmed_part f fd) (c_part_that_comes : Callee P w K mg base k "part_that_comes" (spF K m_part_that_comes)) (c_check_part : Callee P w K mg base k "check_part" (spF K m_check_part)) : FnOk P w K mg base CX0 (k + 1) f fd ["part"] (spF K m_trimmed_part) := by
  refine RT.ok_fn F sc_trimmed_part (fun cdv A outer s H E hr => ?_)
  unfold b_trimmed_part
  exact sss_cons (ss_drop (se_call c_check_part hr (by rfl) (sa_cons (se_var 0) sa_nil)))
      (sss_one (ss_ret (se_call c_part_that_comes hr (by rfl) (sa_cons (se_var 0) sa_nil))))
theorem ok_check_number {f : Addr} {fd : FuncData} {k : Nat} (F : Fun K "check_number" "check_number" s_check_number f fd) (c_is_number : Callee P w K mg base k "is_number" (spF K m_is_number)) : FnOk P w K mg base CX0 (k + 1) f fd ["value", "least", "most"] (spF K m_check_number) := by
  refine RT.ok_fn F sc_check_number (fun cdv A outer s H E hr => ?_)
  unfold b_check_number
  exact sss_one (ss_if (st_not (st_tru (sb_of (se_call c_is_number hr (by rfl) (sa_cons (se_var 0) (sa_cons (se_var 1) (sa_cons (se_var 2) sa_nil))))))) (sss_one ss_no) sss_nil)
theorem ok_counts_to {f : Addr} {fd : FuncData} {k : Nat} (F : Fun K "counts_to" "counts_to" s_counts_to f fd) (z_range : mg "range" = none) (z_sum : mg "sum" = none) (z_len : mg "len" = none) (z_int : mg "int" = none) : FnOk P w K mg base CX0 (k + 1) f fd ["web", "goals", "many"] (spF K m_counts_to) := by
  refine RT.ok_fn F sc_counts_to (fun cdv A outer s H E hr => ?_)
  unfold b_counts_to
  exact sss_cons (ss_set (i := 3) (sc_counts_to.nd) rfl (by first | exact Or.inl rfl | exact Or.inr rfl) (sx_lst (sa_cons (se_ofX (sx_lc (own := [("place", 6)]) rfl (sc_counts_to.nd) (si_rg1 (by rfl) z_range (se_callB cd_len (by rfl) z_len v_len (sbs_cons (sb_var 0) sbs_nil))) (blkOk_by (own := [("place", 6)]) (N := N_counts_to) (sc := defScope s_counts_to) (by decide +kernel)) (fun _ _ _ _ _ => sg_name 6 (vs := [6]) (sc_counts_to.nd) rfl (by first | exact Or.inl rfl | exact Or.inr rfl) (by decide)) (fun _ _ _ _ _ => sts_nil) (fun _ _ _ _ _ => se_callTy cd_int (by rfl) z_int v_int (sbs_cons (sb_of (se_inA (room65 hr) (sb_var 6) (sb_var 1))) sbs_nil)))) sa_nil)))
      (sss_cons (ss_for PassesOwn.never rfl (si_rg1 (by rfl) z_range (se_var 2)) (sg_name 4 (vs := [4]) (sc_counts_to.nd) rfl (by first | exact Or.inl rfl | exact Or.inr rfl) (by decide)) (sss_cons (ss_set (i := 5) (sc_counts_to.nd) rfl (by first | exact Or.inl rfl | exact Or.inr rfl) (sx_of (se_at (hu_of hr) (sb_var 3) (sb_var 4))))
      (sss_one (ss_app (i := 3) (se_ofX (sx_lc (own := [("steps", 7)]) rfl (sc_counts_to.nd) (si_seq (se_var 0)) (blkOk_by (own := [("steps", 7)]) (N := N_counts_to) (sc := defScope s_counts_to) (by decide +kernel)) (fun _ _ _ _ _ => sg_name 7 (vs := [7]) (sc_counts_to.nd) rfl (by first | exact Or.inl rfl | exact Or.inr rfl) (by decide)) (fun _ _ _ _ _ => sts_nil) (fun _ _ _ _ _ => se_callB (cd_sum rfl) (by rfl) z_sum v_sum (sbs_cons (sb_of (se_ofX (sx_lc (own := [("_", 8), ("there", 9)]) rfl (sc_counts_to.nd) (si_seq (se_var 7)) (by dsimp only [L2.Cx.blk, compEnvC]; exact blkOk_by (own := [("_", 8), ("there", 9)]) (N := N_counts_to) (by first | rfl | kernel_rfl)) (fun _ _ _ _ _ => sg_tup (n := 2) rfl (sgs_cons (sg_name 8 (vs := [8, 9]) (sc_counts_to.nd) rfl (by first | exact Or.inl rfl | exact Or.inr rfl) (by decide)) (sgs_cons (sg_name 9 (vs := [8, 9]) (sc_counts_to.nd) rfl (by first | exact Or.inl rfl | exact Or.inr rfl) (by decide)) sgs_nil))) (fun _ _ _ _ _ => sts_nil) (fun _ _ _ _ _ => se_at (hu_of hr) (sb_var 5) (sb_var 9))))) sbs_nil))))))))
      (sss_one (ss_frz 3 (ss_ret (se_var 3)))))
theorem ok_rows_to {f : Addr} {fd : FuncData} {k : Nat} (F : Fun K "rows_to" "rows_to" s_rows_to f fd) (c_counts_to : Callee P w K mg base k "counts_to" (spF K m_counts_to)) (z_reversed : mg "reversed" = none) (z_range : mg "range" = none) : FnOk P w K mg base CX0 (k + 1) f fd ["web", "goals", "many"] (spF K m_rows_to) := by
  refine RT.ok_fn F sc_rows_to (fun cdv A outer s H E hr => ?_)
  unfold b_rows_to
  exact sss_cons (ss_set (i := 3) (sc_rows_to.nd) rfl (by first | exact Or.inl rfl | exact Or.inr rfl) (sx_of (se_call c_counts_to hr (by rfl) (sa_cons (se_var 0) (sa_cons (se_var 1) (sa_cons (se_var 2) sa_nil))))))
      (sss_cons (ss_set (i := 4) (sc_rows_to.nd) rfl (by first | exact Or.inl rfl | exact Or.inr rfl) (sx_of (se_if (st_tru (sb_of (se_at (hu_of hr) (sb_of (se_at (hu_of hr) (sb_var 3) (sb_var 2))) (sb_of se_int)))) (se_lst (sa_cons (se_tup (sa_cons (se_tup sa_nil) (sa_cons se_int sa_nil))) sa_nil)) (se_lst sa_nil))))
      (sss_cons (ss_for PassesOwn.never rfl (si_rev1 (by rfl) z_reversed (by rfl) z_range (se_var 2)) (sg_name 5 (vs := [5]) (sc_rows_to.nd) rfl (by first | exact Or.inl rfl | exact Or.inr rfl) (by decide)) (sss_one (ss_setLc2 (i := 4) (own := [("row", 6), ("place", 8), ("mark", 9), ("there", 10)]) (vs1 := [9, 10]) rfl (sc_rows_to.nd) rfl rfl (sw_true rfl rfl rfl (by decide +kernel)) (si_seq (se_var 4)) (blkOk_by (own := [("row", 6), ("place", 8), ("mark", 9), ("there", 10)]) (N := N_rows_to) (sc := defScope s_rows_to) (by decide +kernel)) (by decide) (tg_tup (tgs_cons (tg_name 6) (tgs_cons (tg_name 8) tgs_nil))) (fun _ _ _ _ _ => sg_tup (n := 2) rfl (sgs_cons (sg_name 6 (vs := [6, 8, 9, 10]) (sc_rows_to.nd) rfl (by first | exact Or.inl rfl | exact Or.inr rfl) (by decide)) (sgs_cons (sg_name 8 (vs := [6, 8, 9, 10]) (sc_rows_to.nd) rfl (by first | exact Or.inl rfl | exact Or.inr rfl) (by decide)) sgs_nil))) (fun _ _ _ _ _ => sts_nil) (fun _ _ _ _ _ => si_seq (se_at (hu_of hr) (sb_var 0) (sb_var 8))) (fun _ _ _ _ _ => sg_tup (n := 2) rfl (sgs_cons (sg_name 9 (vs := [9, 10]) (sc_rows_to.nd) rfl (by first | exact Or.inl rfl | exact Or.inr rfl) (by decide)) (sgs_cons (sg_name 10 (vs := [9, 10]) (sc_rows_to.nd) rfl (by first | exact Or.inl rfl | exact Or.inr rfl) (by decide)) sgs_nil))) (fun _ _ _ _ _ => sts_one (st_tru (sb_of (se_at (hu_of hr) (sb_of (se_at (hu_of hr) (sb_var 3) (sb_var 5))) (sb_var 10))))) (fun _ _ _ _ _ => se_tup (sa_cons (se_op od_addA (sb_var 6) (sb_of (se_tup (sa_cons (se_var 9) sa_nil)))) (sa_cons (se_var 10) sa_nil))) (tr := (fun f => xVal (fOfX f))) (htr := (.inr rfl)))))
      (sss_one (ss_ret (se_ofX (sx_lc (own := [("row", 6), ("_", 7)]) rfl (sc_rows_to.nd) (si_seq (se_var 4)) (blkOk_by (own := [("row", 6), ("_", 7)]) (N := N_rows_to) (sc := defScope s_rows_to) (by decide +kernel)) (fun _ _ _ _ _ => sg_tup (n := 2) rfl (sgs_cons (sg_name 6 (vs := [6, 7]) (sc_rows_to.nd) rfl (by first | exact Or.inl rfl | exact Or.inr rfl) (by decide)) (sgs_cons (sg_name 7 (vs := [6, 7]) (sc_rows_to.nd) rfl (by first | exact Or.inl rfl | exact Or.inr rfl) (by decide)) sgs_nil))) (fun _ _ _ _ _ => sts_nil) (fun _ _ _ _ _ => se_var 6)))))))
theorem ok_runs {f : Addr} {fd : FuncData} {k : Nat} (F : Fun K "runs" "runs" s_runs f fd) (c_rows_to : Callee P w K mg base k "rows_to" (spF K m_rows_to)) (c_event_web : Callee P w K mg base k "event_web" (spF K m_event_web)) (c_check_number : Callee P w K mg base k "check_number" (spF K m_check_number)) (c_check_part : Callee P w K mg base k "check_part" (spF K m_check_part)) (z_list : mg "list" = none) (z_range : mg "range" = none) (z_len : mg "len" = none) {t_MOST_EVENTS : Tok} (k_MOST_EVENTS : mg "MOST_EVENTS" = some (.int 12 t_MOST_EVENTS)) : FnOk P w K mg base CX0 (k + 1) f fd ["part", "many"] (spF K m_runs) := by
  refine RT.ok_fn F sc_runs (fun cdv A outer s H E hr => ?_)
  unfold b_runs
  exact sss_cons (ss_drop (se_call c_check_part hr (by rfl) (sa_cons (se_var 0) sa_nil)))
      (sss_cons (ss_drop (se_call c_check_number hr (by rfl) (sa_cons (se_var 1) (sa_cons se_int (sa_cons (se_glob (v := .int 12) (by rfl) k_MOST_EVENTS ⟨_, rfl⟩ (fun _ _ _ => .int _)) sa_nil)))))
      (sss_one (ss_ret (se_call c_rows_to hr (by rfl) (sa_cons (se_call c_event_web hr (by rfl) (sa_cons (se_var 0) sa_nil)) (sa_cons (se_lrg1 rfl (by rfl) z_list (by rfl) z_range (se_callB cd_len (by rfl) z_len v_len (sbs_cons (sb_var 0) sbs_nil))) (sa_cons (se_var 1) sa_nil)))))))
theorem ok_resting_runs {f : Addr} {fd : FuncData} {k : Nat} (F : Fun K "resting_runs" "resting_runs" s_resting_runs f fd) (c_rows_to : Callee P w K mg base k "rows_to" (spF K m_rows_to)) (c_event_web : Callee P w K mg base k "event_web" (spF K m_event_web)) (c_check_number : Callee P w K mg base k "check_number" (spF K m_check_number)) (c_check_part : Callee P w K mg base k "check_part" (spF K m_check_part)) (z_range : mg "range" = none) (z_len : mg "len" = none) {t_MOST_EVENTS : Tok} (k_MOST_EVENTS : mg "MOST_EVENTS" = some (.int 12 t_MOST_EVENTS)) : FnOk P w K mg base CX0 (k + 1) f fd ["part", "many"] (spF K m_resting_runs) := by
  refine RT.ok_fn F sc_resting_runs (fun cdv A outer s H E hr => ?_)
  unfold b_resting_runs
  exact sss_cons (ss_drop (se_call c_check_part hr (by rfl) (sa_cons (se_var 0) sa_nil)))
      (sss_cons (ss_drop (se_call c_check_number hr (by rfl) (sa_cons (se_var 1) (sa_cons se_int (sa_cons (se_glob (v := .int 12) (by rfl) k_MOST_EVENTS ⟨_, rfl⟩ (fun _ _ _ => .int _)) sa_nil)))))
      (sss_cons (ss_setLc (i := 2) (own := [("state", 3)]) rfl (sc_resting_runs.nd) rfl rfl (sw_true rfl rfl rfl (by decide +kernel)) (si_rg1 (by rfl) z_range (se_callB cd_len (by rfl) z_len v_len (sbs_cons (sb_var 0) sbs_nil))) (blkOk_by (own := [("state", 3)]) (N := N_resting_runs) (sc := defScope s_resting_runs) (by decide +kernel)) (fun _ _ _ _ _ => sg_name 3 (vs := [3]) (sc_resting_runs.nd) rfl (by first | exact Or.inl rfl | exact Or.inr rfl) (by decide)) (fun _ _ _ _ _ => sts_one (st_tru (sb_of (se_at (hu_of hr) (sb_of (se_at (hu_of hr) (sb_var 0) (sb_var 3))) (sb_of se_int))))) (fun _ _ _ _ _ => se_var 3) (tr := (fun f => xVal (fOfX f))) (htr := (.inr rfl)))
      (sss_one (ss_ret (se_call c_rows_to hr (by rfl) (sa_cons (se_call c_event_web hr (by rfl) (sa_cons (se_var 0) sa_nil)) (sa_cons (se_var 2) (sa_cons (se_var 1) sa_nil))))))))
theorem ok_law {f : Addr} {fd : FuncData} {k : Nat} (F : Fun K "law" "law" s_law f fd) (c_count_states : Callee P w K mg base k "count_states" (spF K m_count_states)) (c_trimmed_part : Callee P w K mg base k "trimmed_part" (spF K m_trimmed_part)) (c_same_parts : Callee P w K mg base k "same_parts" (spF K m_same_parts)) (c_least_part : Callee P w K mg base k "least_part" (spF K m_least_part)) (c_resting_runs : Callee P w K mg base k "resting_runs" (spF K m_resting_runs)) (c_runs : Callee P w K mg base k "runs" (spF K m_runs)) (c_law_alike : Callee P w K mg base k "_law_alike" (spF K (m_law_alike 9))) (c_law_least : Callee P w K mg base k "_law_least" (spF K m_law_least)) (c_law_taken : Callee P w K mg base k "_law_taken" (spR K m_law_taken)) (c_law_part : Callee P w K mg base k "_law_part" (spR K m_law_part)) (z_len : mg "len" = none) (z_range : mg "range" = none) (z_tuple : mg "tuple" = none) : FnOk P w K mg base CX0 (k + 1) f fd ["script"] (spLaw K b_law 10 10104) := by
  refine RT.ok_law F sc_law rfl (fun cdv A outer s H E => ps_set (i := 1) sc_law.nd rfl (by first | exact Or.inl rfl | exact Or.inr rfl) (pe_lst (pa_cons (pv 0) (pa_cons pe_int (pa_cons pe_int (pa_cons pe_int pa_nil)))))) (fun cdv A outer s H E hr => ?_)
  unfold b_law
  exact sss_cons (ss_par2 (i := 2) (j := 3) rfl (sc_law.nd) rfl rfl (by decide) rfl rfl (sxs_cons (sx_of (se_callR (i := 1) c_law_part hr (by rfl) (sa_cons se_int (sa_cons se_bl sa_nil)))) (sxs_cons (sx_of (se_callR (i := 1) c_law_part hr (by rfl) (sa_cons se_int (sa_cons se_bl sa_nil)))) sxs_nil)) rfl)
      (sss_cons (ss_if (st_cmp (od_eq hr.units) (sb_of (se_callR (i := 1) c_law_taken hr (by rfl) (sa_cons se_int sa_nil))) (sb_of se_int) (nomark _)) (sss_cons (ss_set (i := 4) (sc_law.nd) rfl (by first | exact Or.inl rfl | exact Or.inr rfl) (sx_of (se_callB cd_len (by rfl) z_len v_len (sbs_cons (sb_var 2) sbs_nil))))
      (sss_cons (ss_set (i := 5) (sc_law.nd) rfl (by first | exact Or.inl rfl | exact Or.inr rfl) (sx_of (se_callTy cd_tuple (by rfl) z_tuple v_tuple (sbs_cons (sb_of (se_ofX (sx_lc (own := [("state", 10)]) rfl (sc_law.nd) (si_seq (se_var 2)) (blkOk_by (own := [("state", 10)]) (N := N_law) (sc := defScope s_law) (by decide +kernel)) (fun _ _ _ _ _ => sg_name 10 (vs := [10]) (sc_law.nd) rfl (by first | exact Or.inl rfl | exact Or.inr rfl) (by decide)) (fun _ _ _ _ _ => sts_nil) (fun _ _ _ _ _ => se_tup (sa_cons (se_at (hu_of hr) (sb_var 10) (sb_of se_int)) (sa_cons (se_callTy cd_tuple (by rfl) z_tuple v_tuple (sbs_cons (sb_of (se_ofX (sx_lc (own := [("step", 11)]) rfl (sc_law.nd) (si_seq (se_at (hu_of hr) (sb_var 10) (sb_of se_int))) (by dsimp only [L2.Cx.blk, compEnvC]; exact blkOk_by (own := [("step", 11)]) (N := N_law) (by first | rfl | kernel_rfl)) (fun _ _ _ _ _ => sg_name 11 (vs := [11]) (sc_law.nd) rfl (by first | exact Or.inl rfl | exact Or.inr rfl) (by decide)) (fun _ _ _ _ _ => sts_nil) (fun _ _ _ _ _ => se_op od_addA (sb_of (se_sl (sb_var 11) so_none (so_some se_int))) (sb_of (se_tup (sa_cons (se_op od_addA (sb_of (se_at (hu_of hr) (sb_var 11) (sb_of se_int))) (sb_of (se_op od_mulA (sb_var 4) (sb_of (se_callR (i := 1) c_law_taken hr (by rfl) (sa_cons se_int sa_nil)))))) sa_nil))))))) sbs_nil)) sa_nil)))))) sbs_nil))))
      (sss_one (ss_set (i := 3) (sc_law.nd) rfl (by first | exact Or.inl rfl | exact Or.inr rfl) (sx_of (se_op od_addA (sb_var 5) (sb_of (se_callTy cd_tuple (by rfl) z_tuple v_tuple (sbs_cons (sb_of (se_ofX (sx_lc (own := [("state", 10)]) rfl (sc_law.nd) (si_seq (se_var 2)) (blkOk_by (own := [("state", 10)]) (N := N_law) (sc := defScope s_law) (by decide +kernel)) (fun _ _ _ _ _ => sg_name 10 (vs := [10]) (sc_law.nd) rfl (by first | exact Or.inl rfl | exact Or.inr rfl) (by decide)) (fun _ _ _ _ _ => sts_nil) (fun _ _ _ _ _ => se_tup (sa_cons (se_at (hu_of hr) (sb_var 10) (sb_of se_int)) (sa_cons (se_callTy cd_tuple (by rfl) z_tuple v_tuple (sbs_cons (sb_of (se_ofX (sx_lc (own := [("step", 11)]) rfl (sc_law.nd) (si_seq (se_at (hu_of hr) (sb_var 10) (sb_of se_int))) (by dsimp only [L2.Cx.blk, compEnvC]; exact blkOk_by (own := [("step", 11)]) (N := N_law) (by first | rfl | kernel_rfl)) (fun _ _ _ _ _ => sg_name 11 (vs := [11]) (sc_law.nd) rfl (by first | exact Or.inl rfl | exact Or.inr rfl) (by decide)) (fun _ _ _ _ _ => sts_nil) (fun _ _ _ _ _ => se_op od_addA (sb_of (se_sl (sb_var 11) so_none (so_some se_int))) (sb_of (se_tup (sa_cons (se_op od_addA (sb_of (se_at (hu_of hr) (sb_var 11) (sb_of se_int))) (sb_var 4)) sa_nil))))))) sbs_nil)) sa_nil)))))) sbs_nil))))))))) sss_nil)
      (sss_cons (ss_set (i := 6) (sc_law.nd) rfl (by first | exact Or.inl rfl | exact Or.inr rfl) (sx_of (se_call c_law_least hr (by rfl) (sa_cons (se_var 2) sa_nil))))
      (sss_cons (ss_if (st_w (sw_or (st_not (st_tru (sb_of (se_call c_law_alike hr (by rfl) (sa_cons (se_call c_least_part hr (by rfl) (sa_cons (se_var 2) sa_nil)) (sa_cons (se_var 6) sa_nil)))))) (sw_or1 (st_not (st_tru (sb_of (se_call c_law_alike hr (by rfl) (sa_cons (se_call c_count_states hr (by rfl) (sa_cons (se_var 2) sa_nil)) (sa_cons (se_callB cd_len (by rfl) z_len v_len (sbs_cons (sb_var 6) sbs_nil)) sa_nil))))))))) (sss_one (ss_ret se_bl)) sss_nil)
      (sss_cons (ss_if (st_cmp (od_ne hr.units) (sb_of (se_call c_least_part hr (by rfl) (sa_cons (se_var 6) sa_nil))) (sb_var 6) (nomark _)) (sss_one (ss_ret se_bl)) sss_nil)
      (sss_cons (ss_if (st_not (st_tru (sb_of (se_call c_law_alike hr (by rfl) (sa_cons (se_call c_same_parts hr (by rfl) (sa_cons (se_var 2) (sa_cons (se_var 3) sa_nil))) (sa_cons (se_cmp (od_eq hr.units) (sb_of (se_call c_law_least hr (by rfl) (sa_cons (se_var 3) sa_nil))) (sb_var 6) (nomark _)) sa_nil)))))) (sss_one (ss_ret se_bl)) sss_nil)
      (sss_cons (ss_if (st_not (st_tru (sb_of (se_call c_same_parts hr (by rfl) (sa_cons (se_var 2) (sa_cons (se_call c_trimmed_part hr (by rfl) (sa_cons (se_var 2) sa_nil)) sa_nil)))))) (sss_one (ss_ret se_bl)) sss_nil)
      (sss_cons (ss_if (st_not (st_tru (sb_of (se_call c_same_parts hr (by rfl) (sa_cons (se_var 2) (sa_cons (se_var 6) sa_nil)))))) (sss_one (ss_ret se_bl)) sss_nil)
      (sss_cons (ss_for PassesOwn.never rfl (si_rg1 (by rfl) z_range se_int) (sg_name 7 (vs := [7]) (sc_law.nd) rfl (by first | exact Or.inl rfl | exact Or.inr rfl) (by decide)) (sss_cons (ss_par2 (i := 8) (j := 9) rfl (sc_law.nd) rfl rfl (by decide) rfl rfl (sxs_cons (sx_of (se_call c_runs hr (by rfl) (sa_cons (se_var 2) (sa_cons (se_var 7) sa_nil)))) (sxs_cons (sx_of (se_call c_runs hr (by rfl) (sa_cons (se_var 3) (sa_cons (se_var 7) sa_nil)))) sxs_nil)) rfl)
      (sss_cons (ss_if (st_w (sw_and (st_tru (sb_of (se_call c_same_parts hr (by rfl) (sa_cons (se_var 2) (sa_cons (se_var 3) sa_nil))))) (sw_and1 (st_w (sw_or (st_cmp (od_ne hr.units) (sb_var 8) (sb_var 9) (nomark _)) (sw_or1 (st_cmp (od_ne hr.units) (sb_of (se_call c_resting_runs hr (by rfl) (sa_cons (se_var 2) (sa_cons (se_var 7) sa_nil)))) (sb_of (se_call c_resting_runs hr (by rfl) (sa_cons (se_var 3) (sa_cons (se_var 7) sa_nil)))) (nomark _)))))))) (sss_one (ss_ret se_bl)) sss_nil)
      (sss_one (ss_if (st_w (sw_or (st_cmp (od_ne hr.units) (sb_of (se_call c_runs hr (by rfl) (sa_cons (se_var 6) (sa_cons (se_var 7) sa_nil)))) (sb_var 8) (nomark _)) (sw_or1 (st_cmp (od_ne hr.units) (sb_of (se_call c_resting_runs hr (by rfl) (sa_cons (se_var 6) (sa_cons (se_var 7) sa_nil)))) (sb_of (se_call c_resting_runs hr (by rfl) (sa_cons (se_var 2) (sa_cons (se_var 7) sa_nil)))) (nomark _))))) (sss_one (ss_ret se_bl)) sss_nil)))))
      (sss_cons (ss_if (st_cmp (od_ne hr.units) (sb_of (se_call c_same_parts hr (by rfl) (sa_cons (se_var 2) (sa_cons (se_var 3) sa_nil)))) (sb_of (se_call c_same_parts hr (by rfl) (sa_cons (se_var 3) (sa_cons (se_var 2) sa_nil)))) (nomark _)) (sss_one (ss_ret se_bl)) sss_nil)
      (sss_cons (ss_if (st_cmp (od_ne hr.units) (sb_of (se_call c_same_parts hr (by rfl) (sa_cons (se_var 2) (sa_cons (se_var 3) sa_nil)))) (sb_of (se_cmp (od_eq hr.units) (sb_of (se_call c_least_part hr (by rfl) (sa_cons (se_var 3) sa_nil))) (sb_of (se_call c_least_part hr (by rfl) (sa_cons (se_var 2) sa_nil))) (nomark _))) (nomark _)) (sss_one (ss_ret se_bl)) sss_nil)
      (sss_one (ss_ret (se_chain od_le od_le (sb_of (se_call c_count_states hr (by rfl) (sa_cons (se_var 2) sa_nil))) (sb_of (se_callB cd_len (by rfl) z_len v_len (sbs_cons (sb_of (se_call c_trimmed_part hr (by rfl) (sa_cons (se_var 2) sa_nil))) sbs_nil))) (sb_of (se_callB cd_len (by rfl) z_len v_len (sbs_cons (sb_var 2) sbs_nil))))))))))))))))
end
end Lw

namespace Bf
def adds (acc ts : List Int) : List Int := ts.foldl (fun acc t => if t ∈ acc then acc else acc ++ [t]) acc
theorem adds_nil (acc : List Int) : adds acc [] = acc := rfl
theorem adds_cons (acc : List Int) (t : Int) (ts : List Int) : adds acc (t :: ts) = adds (if t ∈ acc then acc else acc ++ [t]) ts := rfl
theorem adds_pre : ∀ (ts acc : List Int), acc <+: adds acc ts
  | [], acc => List.prefix_refl acc
  | t :: ts, acc => by
    rw [adds_cons]
    split
    · exact adds_pre ts acc
    · exact (List.prefix_append acc [t]).trans (adds_pre ts _)
theorem adds_nd : ∀ (ts acc : List Int), acc.Nodup → (adds acc ts).Nodup
  | [], acc, h => h
  | t :: ts, acc, h => by
    rw [adds_cons]
    split
    · exact adds_nd ts acc h
    · exact adds_nd ts _ (by grind)
theorem adds_mem (x : Int) : ∀ (ts acc : List Int), x ∈ adds acc ts ↔ x ∈ acc ∨ x ∈ ts
  | [], acc => by simp [adds_nil]
  | t :: ts, acc => by
    rw [adds_cons]
    split <;> rw [adds_mem x ts] <;> grind
def bf (G : Int → List Int) (v : Int) : Nat → List Int
  | 0 => [v]
  | k + 1 => match (bf G v k)[k]? with
    | some u => adds (bf G v k) (G u)
    | none => bf G v k
variable {G : Int → List Int} {v : Int}
theorem bf_s (k : Nat) : bf G v k <+: bf G v (k + 1) := by
  rw [bf]
  split
  · exact adds_pre _ _
  · exact List.prefix_refl _
theorem bf_le {k j : Nat} (h : k ≤ j) : bf G v k <+: bf G v j := by
  induction j with
  | zero => have : k = 0 := by omega
            subst this; exact List.prefix_refl _
  | succ j ih =>
    by_cases e : k = j + 1
    · subst e; exact List.prefix_refl _
    · exact (ih (by omega)).trans (bf_s j)
theorem bf_nd (k : Nat) : (bf G v k).Nodup := by
  induction k with
  | zero => simp [bf]
  | succ k ih => rw [bf]; split; exact adds_nd _ _ ih; exact ih
theorem bf_in (S : Int → Prop) (hv : S v) (hG : ∀ u, S u → ∀ t ∈ G u, S t) (k : Nat) : ∀ x ∈ bf G v k, S x := by
  induction k with
  | zero => simp [bf, hv]
  | succ k ih =>
    intro x hx
    rw [bf] at hx
    split at hx
    · rename_i u hu
      rcases (adds_mem x _ _).mp hx with h | h
      · exact ih x h
      · exact hG u (ih u (List.mem_of_getElem? hu)) x h
    · exact ih x hx
theorem bf_stop {k : Nat} (h : (bf G v k).length ≤ k) : ∀ j, bf G v (k + j) = bf G v k := by
  intro j
  induction j with
  | zero => rfl
  | succ j ih =>
    rw [← Nat.add_assoc, bf, ih]
    rw [List.getElem?_eq_none (by omega)]
theorem pig : ∀ (m : Nat) (l : List Int), l.Nodup → (∀ x ∈ l, 0 ≤ x ∧ x < m) → l.length ≤ m
  | 0, l, _, h => by
    cases l with
    | nil => simp
    | cons a l => have := h a (by simp); omega
  | m + 1, l, hn, h => by
    have e := pig m (l.erase (m : Int)) (hn.erase _) (fun x hx => by
      have h1 := (hn.mem_erase_iff).mp hx
      have h2 := h x h1.2
      have := h1.1
      omega)
    rw [List.length_erase] at e
    split at e <;> omega
theorem bf_len {m : Nat} (hv : 0 ≤ v ∧ v < m) (hG : ∀ u : Int, 0 ≤ u ∧ u < m → ∀ t ∈ G u, 0 ≤ t ∧ t < m) (k : Nat) : (bf G v k).length ≤ m :=
  pig m _ (bf_nd k) (bf_in (fun x => 0 ≤ x ∧ x < m) hv hG k)
def ord (G : Int → List Int) (v : Int) : List Int := bf G v 8
structure Web (m : Nat) (G : Int → List Int) : Prop where
  le : m ≤ 8
  to : ∀ u : Int, 0 ≤ u ∧ u < m → ∀ t ∈ G u, 0 ≤ t ∧ t < m
variable {m : Nat}
theorem ord_end (W : Web m G) (hv : 0 ≤ v ∧ v < m) {k : Nat} (hk : (bf G v k).length ≤ k) : bf G v k = ord G v := by
  have h8 : (bf G v 8).length ≤ 8 := by have := bf_len hv W.to 8; have := W.le; omega
  by_cases h : k ≤ 8
  · have := bf_stop hk (8 - k)
    rw [ord, ← this]; congr 1; omega
  · have := bf_stop h8 (k - 8)
    rw [ord, ← this]; congr 1; omega
theorem ord_self : v ∈ ord G v := (bf_le (Nat.zero_le 8)).subset (by simp [bf])
theorem ord_in (W : Web m G) (hv : 0 ≤ v ∧ v < m) : ∀ x ∈ ord G v, 0 ≤ x ∧ x < m := bf_in (fun x => 0 ≤ x ∧ x < m) hv W.to 8
theorem ord_nd : (ord G v).Nodup := bf_nd 8
theorem ord_len (W : Web m G) (hv : 0 ≤ v ∧ v < m) : (ord G v).length ≤ m := bf_len hv W.to 8
theorem ord_go (W : Web m G) (hv : 0 ≤ v ∧ v < m) {u t : Int} (hu : u ∈ ord G v) (ht : t ∈ G u) : t ∈ ord G v := by
  obtain ⟨i, hi, e⟩ := List.getElem_of_mem hu
  have hl := ord_len W hv
  have h8 := W.le
  have hi2 : i < (bf G v i).length := by
    by_cases c : (bf G v i).length ≤ i
    · rw [ord_end W hv c] at c; omega
    · omega
  have e2 : (bf G v i)[i]? = some u := by
    have p : bf G v i <+: ord G v := bf_le (by omega)
    rw [List.getElem?_eq_getElem hi2, p.getElem hi2, e]
  have : t ∈ bf G v (i + 1) := by
    rw [bf, e2]; exact (adds_mem t _ _).mpr (Or.inr ht)
  exact (bf_le (show i + 1 ≤ 8 by omega)).subset this
theorem ord_sub {S : Int → Prop} (hv : S v) (hG : ∀ u, S u → ∀ t ∈ G u, S t) : ∀ x ∈ ord G v, S x := bf_in S hv hG 8
theorem ord_trans (W : Web m G) (hv : 0 ≤ v ∧ v < m) {u t : Int} (hu : u ∈ ord G v) (ht : t ∈ ord G u) : t ∈ ord G v :=
  ord_sub (S := fun x => x ∈ ord G v) hu (fun a ha b hb => ord_go W hv ha hb) t ht
/-- levels -/
def lv (G : Int → List Int) (O : List Int) : List Int → List Int
  | [] => O
  | u :: us => lv G (adds O (G u)) us
theorem lv_bf : ∀ (us : List Int) (p : Nat), (∀ j, (hj : j < us.length) → (bf G v (p + us.length))[p + j]? = some us[j]) → p + us.length ≤ (bf G v p).length → lv G (bf G v p) us = bf G v (p + us.length)
  | [], p, _, _ => rfl
  | u :: us, p, h, hl => by
    have h0 := h 0 (by simp)
    have hp : p < (bf G v p).length := by simp at hl; omega
    have q : (bf G v p) <+: bf G v (p + (u :: us).length) := bf_le (by omega)
    have e : (bf G v p)[p]? = some u := by
      rw [Nat.add_zero, List.getElem?_eq_getElem (by have := q.length_le; omega)] at h0
      rw [List.getElem?_eq_getElem hp, q.getElem hp]; simpa using h0
    have e1 : adds (bf G v p) (G u) = bf G v (p + 1) := by rw [bf, e]
    rw [lv, e1]
    have el : p + (u :: us).length = (p + 1) + us.length := by simp; omega
    rw [lv_bf us (p + 1), el]
    · intro j hj
      have := h (j + 1) (by simp; omega)
      rw [el] at this
      rw [show p + 1 + j = p + (j + 1) by omega, this]; simp
    · have := (bf_s (G := G) (v := v) p).length_le
      rw [← el]; exact Nat.le_trans hl this
theorem lv_all (p : Nat) : lv G (bf G v p) ((bf G v p).drop p) = bf G v (p + ((bf G v p).drop p).length) := by
  by_cases hp : p ≤ (bf G v p).length
  · refine lv_bf _ p (fun j hj => ?_) (by simp; omega)
    have q : (bf G v p) <+: bf G v (p + ((bf G v p).drop p).length) := bf_le (by omega)
    have h2 : p + j < (bf G v p).length := by simp at hj; omega
    rw [List.getElem?_eq_getElem (by have := q.length_le; omega), ← q.getElem h2]
    simp
  · rw [List.drop_eq_nil_of_le (by omega)]; rfl
theorem adds_map {f : Int → Int} {S : Int → Prop} (hf : ∀ a b, S a → S b → f a = f b → a = b) : ∀ (ts acc : List Int), (∀ x ∈ acc, S x) → (∀ x ∈ ts, S x) → adds (acc.map f) (ts.map f) = (adds acc ts).map f
  | [], acc, _, _ => rfl
  | t :: ts, acc, ha, ht => by
    rw [List.map_cons, adds_cons, adds_cons]
    have e : f t ∈ acc.map f ↔ t ∈ acc := by
      rw [List.mem_map]
      constructor
      · rintro ⟨a, h1, h2⟩
        rw [← hf a t (ha a h1) (ht t (by simp)) h2]; exact h1
      · exact fun h => ⟨t, h, rfl⟩
    by_cases c : t ∈ acc
    · rw [if_pos c, if_pos (e.mpr c)]
      exact adds_map hf ts acc ha fun x hx => ht x (by simp [hx])
    · rw [if_neg c, if_neg (fun h => c (e.mp h))]
      rw [← adds_map hf ts (acc ++ [t]) (by grind) fun x hx => ht x (by simp [hx])]
      simp
theorem bf_map {G' : Int → List Int} {f : Int → Int} {S : Int → Prop} (hf : ∀ a b, S a → S b → f a = f b → a = b) (hv : S v) (hG : ∀ u, S u → ∀ t ∈ G u, S t) (e : ∀ u, S u → G' (f u) = (G u).map f) (k : Nat) : bf G' (f v) k = (bf G v k).map f := by
  induction k with
  | zero => rfl
  | succ k ih =>
    rw [bf, bf, ih, List.getElem?_map]
    cases h : (bf G v k)[k]? with
    | none => rfl
    | some u =>
      have hs := bf_in S hv hG k
      have hu := hs u (List.mem_of_getElem? h)
      show adds _ (G' (f u)) = _
      rw [e u hu]
      exact adds_map hf _ _ hs (hG u hu)
def idx (O : List Int) (t : Int) : Int := (O.idxOf t : Nat)
theorem idx_inj {O : List Int} {a b : Int} (ha : a ∈ O) (hb : b ∈ O) (h : idx O a = idx O b) : a = b := by
  have h1 : O.idxOf a = O.idxOf b := by unfold idx at h; omega
  have ha' := List.idxOf_lt_length_of_mem ha
  have hb' := List.idxOf_lt_length_of_mem hb
  have e1 := List.getElem_idxOf ha'
  have e2 := List.getElem_idxOf hb'
  rw [← e1, ← e2]; congr 1
theorem idx_at {O : List Int} (hn : O.Nodup) {i : Nat} (hi : i < O.length) : idx O O[i] = i := by
  unfold idx
  rw [hn.idxOf_getElem i hi]
theorem idx_lt {O : List Int} {a : Int} (ha : a ∈ O) : 0 ≤ idx O a ∧ idx O a < O.length := by
  have := List.idxOf_lt_length_of_mem ha
  unfold idx; omega
theorem idx_all {O : List Int} (hn : O.Nodup) : O.map (idx O) = (List.range O.length).map fun (i : Nat) => (i : Int) := by
  apply List.ext_getElem (by simp)
  intro i h1 h2
  simp only [List.getElem_map, List.getElem_range]
  exact idx_at hn (by simpa using h1)
end Bf

namespace Wb
abbrev Web (μ : Type) := List (List (μ × Int))
variable {μ : Type}
def stp (w : Web μ) (v : Int) : List (μ × Int) := (w[v.toNat]?).getD []
def cnt (w : Web μ) (gs : List Int) : Nat → Int → Int
  | 0, v => if v ∈ gs then 1 else 0
  | k + 1, v => ((stp w v).map fun p => cnt w gs k p.2).sum
def nxt (w : Web μ) (r : List μ × Int) : List (List μ × Int) := (stp w r.2).map fun p => (r.1 ++ [p.1], p.2)
def lev (w : Web μ) : Nat → List (List μ × Int)
  | 0 => [([], 0)]
  | k + 1 => (lev w k).flatMap (nxt w)
structure WOk (w : Web μ) : Prop where
  n : 1 ≤ w.length ∧ w.length ≤ 8
  k : ∀ st ∈ w, st.length ≤ 2
  to : ∀ st ∈ w, ∀ p ∈ st, 0 ≤ p.2 ∧ p.2 < (w.length : Int)
variable {w : Web μ} {gs : List Int}
theorem stp_mem (h : WOk w) {v : Int} (h0 : 0 ≤ v) (h1 : v < w.length) : w[v.toNat]? = some (stp w v) ∧ stp w v ∈ w := by
  have hl : v.toNat < w.length := by omega
  have e : w[v.toNat]? = some w[v.toNat] := List.getElem?_eq_getElem hl
  have e2 : stp w v = w[v.toNat] := by unfold stp; rw [e]; rfl
  rw [e2]; exact ⟨e, List.getElem_mem hl⟩
theorem sum_nn : ∀ l : List Int, (∀ x ∈ l, 0 ≤ x) → 0 ≤ l.sum
  | [], _ => by simp
  | a :: l, h => by
    have := sum_nn l fun x hx => h x (by simp [hx])
    have := h a (by simp)
    simp only [List.sum_cons]; omega
theorem sum_zero : ∀ l : List Int, (∀ x ∈ l, 0 ≤ x) → l.sum = 0 → ∀ x ∈ l, x = 0
  | [], _, _, x, hx => by simp at hx
  | a :: l, h, e, x, hx => by
    have h1 := sum_nn l fun x hx => h x (by simp [hx])
    have h2 := h a (by simp)
    simp only [List.sum_cons] at e
    rcases List.mem_cons.mp hx with rfl | hx
    · omega
    · exact sum_zero l (fun x hx => h x (by simp [hx])) (by omega) x hx
theorem cnt_nn : ∀ (k : Nat) (v : Int), 0 ≤ cnt w gs k v
  | 0, v => by rw [cnt]; split <;> omega
  | k + 1, v => by
    rw [cnt]
    refine sum_nn _ fun x hx => ?_
    obtain ⟨p, _, rfl⟩ := List.mem_map.mp hx
    exact cnt_nn k p.2
theorem cnt_zero {k : Nat} {v : Int} (h : cnt w gs (k + 1) v = 0) : ∀ p ∈ stp w v, cnt w gs k p.2 = 0 := by
  intro p hp
  rw [cnt] at h
  exact sum_zero _ (fun x hx => by obtain ⟨q, _, rfl⟩ := List.mem_map.mp hx; exact cnt_nn k q.2) h _ (List.mem_map.mpr ⟨p, hp, rfl⟩)
theorem keep_aux (k : Nat) : ∀ l : List (List μ × Int), (l.filter fun r => cnt w gs (k + 1) r.2 != 0).flatMap (fun r => (nxt w r).filter fun q => cnt w gs k q.2 != 0) = (l.flatMap (nxt w)).filter fun r => cnt w gs k r.2 != 0
  | [] => rfl
  | r :: l => by
    rw [List.flatMap_cons, List.filter_append, ← keep_aux k l]
    by_cases c : cnt w gs (k + 1) r.2 = 0
    · rw [List.filter_cons_of_neg (by simp [c])]
      have : (nxt w r).filter (fun r => cnt w gs k r.2 != 0) = [] := by
        rw [List.filter_eq_nil_iff]
        intro q hq
        obtain ⟨p, hp, rfl⟩ := List.mem_map.mp hq
        simp [cnt_zero c p hp]
      rw [this]; rfl
    · rw [List.filter_cons_of_pos (by simp [c]), List.flatMap_cons]
def kp (w : Web μ) (gs : List Int) (k i : Nat) : List (List μ × Int) := (lev w i).filter fun r => cnt w gs k r.2 != 0
theorem kp_step (k i : Nat) : (kp w gs (k + 1) i).flatMap (fun r => (nxt w r).filter fun q => cnt w gs k q.2 != 0) = kp w gs k (i + 1) := keep_aux k (lev w i)
theorem kp_zero (many : Nat) : kp w gs many 0 = if cnt w gs many 0 != 0 then [([], 0)] else [] := by
  unfold kp lev
  cases h : cnt w gs many 0 != 0 <;> simp [h]
theorem kp_end (i : Nat) : kp w gs 0 i = (lev w i).filter fun r => decide (r.2 ∈ gs) := by
  unfold kp
  congr 1
  funext r
  simp only [cnt]
  split <;> simp [*]
theorem sum_flat {α : Type} (f : α → List Int) : ∀ l : List α, (l.flatMap f).sum = (l.map fun a => (f a).sum).sum
  | [] => rfl
  | a :: l => by simp [sum_flat f l]
theorem count_lev (k : Nat) : ∀ i : Nat, ((lev w i).map fun r => cnt w gs k r.2).sum = cnt w gs (i + k) 0
  | 0 => by simp [lev]
  | i + 1 => by
    have e : i + 1 + k = i + (k + 1) := by omega
    rw [e, ← count_lev (k + 1) i, lev, List.map_flatMap, sum_flat]
    congr 1
    refine List.map_congr_left fun r _ => ?_
    rw [cnt, nxt, List.map_map]; rfl
theorem sum_len : ∀ (p : List μ × Int → Bool) (l : List (List μ × Int)), (l.map fun r => if p r then (1 : Int) else 0).sum = (l.filter p).length
  | _, [] => rfl
  | p, a :: l => by
    rw [List.map_cons, List.sum_cons, sum_len p l]
    by_cases c : p a <;> simp [c] <;> omega
theorem count_end (i : Nat) : cnt w gs i 0 = ((lev w i).filter fun r => decide (r.2 ∈ gs)).length := by
  rw [← sum_len, ← Nat.add_zero i, ← count_lev 0 i, Nat.add_zero]
  congr 1
  refine List.map_congr_left fun r _ => ?_
  simp [cnt]
theorem flat_le {α β : Type} {f : α → List β} {b : Nat} : ∀ l : List α, (∀ a ∈ l, (f a).length ≤ b) → (l.flatMap f).length ≤ l.length * b
  | [], _ => by simp
  | a :: l, h => by
    have h1 := flat_le l fun x hx => h x (by simp [hx])
    have h2 := h a (by simp)
    rw [List.flatMap_cons, List.length_append, List.length_cons, Nat.succ_mul]
    omega
theorem stp_len (h : WOk w) (v : Int) : (stp w v).length ≤ 2 := by
  unfold stp
  cases e : w[v.toNat]? with
  | none => simp
  | some s => exact h.k s (List.mem_of_getElem? e)
theorem lev_len (h : WOk w) : ∀ k, (lev w k).length ≤ 2 ^ k
  | 0 => by simp [lev]
  | k + 1 => by
    have h1 := lev_len h k
    have h2 := flat_le (f := nxt w) (b := 2) (lev w k) fun r _ => by rw [nxt, List.length_map]; exact stp_len h r.2
    rw [lev, Nat.pow_succ]; omega
theorem stp_to (h : WOk w) {v : Int} : ∀ p ∈ stp w v, 0 ≤ p.2 ∧ p.2 < (w.length : Int) := by
  intro p hp
  unfold stp at hp
  cases e : w[v.toNat]? with
  | none => rw [e] at hp; simp at hp
  | some s => rw [e] at hp; exact h.to s (List.mem_of_getElem? e) p hp
theorem lev_in (h : WOk w) : ∀ k, ∀ r ∈ lev w k, (0 ≤ r.2 ∧ r.2 < (w.length : Int)) ∧ r.1.length = k
  | 0, r, hr => by
    have := h.n
    simp only [lev, List.mem_singleton] at hr
    subst hr; exact ⟨by simp; omega, rfl⟩
  | k + 1, r, hr => by
    rw [lev] at hr
    obtain ⟨q, hq, hr⟩ := List.mem_flatMap.mp hr
    obtain ⟨p, hp, rfl⟩ := List.mem_map.mp hr
    have := (lev_in h k q hq).2
    exact ⟨stp_to h p hp, by simp [this]⟩
/-! order of rows -/
def rlt (lt : μ → μ → Prop) : List μ → List μ → Prop
  | x :: xs, y :: ys => lt x y ∨ (x = y ∧ rlt lt xs ys)
  | _, _ => False
variable {lt : μ → μ → Prop}
theorem rlt_app {a b : μ} : ∀ {xs ys : List μ}, rlt lt xs ys → rlt lt (xs ++ [a]) (ys ++ [b])
  | x :: xs, y :: ys, h => by
    rcases h with h | ⟨e, h⟩
    · exact Or.inl h
    · exact Or.inr ⟨e, rlt_app h⟩
  | [], _, h => by cases h
  | _ :: _, [], h => by cases h
theorem rlt_end {a b : μ} (h : lt a b) : ∀ {xs : List μ}, rlt lt (xs ++ [a]) (xs ++ [b])
  | [] => Or.inl h
  | x :: xs => Or.inr ⟨rfl, rlt_end h⟩
def Asc (lt : μ → μ → Prop) (l : List (List μ × Int)) : Prop := l.Pairwise fun r q => rlt lt r.1 q.1
theorem asc_nxt (h : ∀ st ∈ w, st.Pairwise fun p q => lt p.1 q.1) (r : List μ × Int) : Asc lt (nxt w r) := by
  unfold nxt Asc
  rw [List.pairwise_map]
  have : (stp w r.2).Pairwise fun p q => lt p.1 q.1 := by
    unfold stp
    cases e : w[r.2.toNat]? with
    | none => simp
    | some s => exact h s (List.mem_of_getElem? e)
  exact this.imp fun {a b} hh => rlt_end (lt := lt) (xs := r.1) hh
theorem asc_flat (h : ∀ st ∈ w, st.Pairwise fun p q => lt p.1 q.1) : ∀ {l : List (List μ × Int)}, Asc lt l → Asc lt (l.flatMap (nxt w))
  | [], _ => by simp [Asc]
  | r :: l, hl => by
    have h1 := List.pairwise_cons.mp hl
    rw [List.flatMap_cons]
    unfold Asc
    rw [List.pairwise_append]
    refine ⟨asc_nxt h r, asc_flat h h1.2, fun a ha b hb => ?_⟩
    obtain ⟨p, _, rfl⟩ := List.mem_map.mp ha
    obtain ⟨q, hq, hb⟩ := List.mem_flatMap.mp hb
    obtain ⟨p', _, rfl⟩ := List.mem_map.mp hb
    exact rlt_app (h1.1 q hq)
theorem asc_lev (h : ∀ st ∈ w, st.Pairwise fun p q => lt p.1 q.1) : ∀ k, Asc lt (lev w k)
  | 0 => by simp [Asc, lev]
  | k + 1 => asc_flat h (asc_lev h k)
/-! the rows in the order of coming -/
abbrev Qu (μ : Type) := List (Int × List μ)
def addr (r : List μ) : Qu μ → List (μ × Int) → Qu μ
  | A, [] => A
  | A, p :: ps => addr r (if p.2 ∈ A.map (·.1) then A else A ++ [(p.2, r ++ [p.1])]) ps
def qf (w : Web μ) : Nat → Qu μ
  | 0 => [(0, [])]
  | k + 1 => match (qf w k)[k]? with
    | some u => addr u.2 (qf w k) (stp w u.1)
    | none => qf w k
def G (w : Web μ) (v : Int) : List Int := (stp w v).map (·.2)
theorem web_ok (h : WOk w) : Bf.Web w.length (G w) where
  le := h.n.2
  to := by
    intro u hu t ht
    obtain ⟨p, hp, rfl⟩ := List.mem_map.mp ht
    exact stp_to h p hp
theorem addr_keys (r : List μ) : ∀ (ps : List (μ × Int)) (A : Qu μ), (addr r A ps).map (·.1) = Bf.adds (A.map (·.1)) (ps.map (·.2))
  | [], A => rfl
  | p :: ps, A => by
    rw [addr, addr_keys r ps, List.map_cons, Bf.adds_cons]
    congr 1
    split <;> simp
theorem addr_pre (r : List μ) : ∀ (ps : List (μ × Int)) (A : Qu μ), A <+: addr r A ps
  | [], A => List.prefix_refl A
  | p :: ps, A => by
    rw [addr]
    split
    · exact addr_pre r ps A
    · exact (List.prefix_append A _).trans (addr_pre r ps _)
theorem qf_keys : ∀ k, (qf w k).map (·.1) = Bf.bf (G w) 0 k
  | 0 => rfl
  | k + 1 => by
    have e := qf_keys k
    rw [qf, Bf.bf, ← e, List.getElem?_map]
    cases h : (qf w k)[k]? with
    | none => rfl
    | some u => exact (addr_keys u.2 _ _)
theorem qf_len (k : Nat) : (qf w k).length = (Bf.bf (G w) 0 k).length := by rw [← qf_keys, List.length_map]
theorem qf_s (k : Nat) : qf w k <+: qf w (k + 1) := by
  rw [qf]
  split
  · exact addr_pre _ _ _
  · exact List.prefix_refl _
theorem qf_le {k j : Nat} (h : k ≤ j) : qf w k <+: qf w j := by
  induction j with
  | zero => have : k = 0 := by omega
            subst this; exact List.prefix_refl _
  | succ j ih =>
    by_cases e : k = j + 1
    · subst e; exact List.prefix_refl _
    · exact (ih (by omega)).trans (qf_s j)
theorem qf_stop {k : Nat} (h : (qf w k).length ≤ k) : ∀ j, qf w (k + j) = qf w k := by
  intro j
  induction j with
  | zero => rfl
  | succ j ih =>
    rw [← Nat.add_assoc, qf, ih]
    rw [List.getElem?_eq_none (by omega)]
def Q8 (w : Web μ) : Qu μ := qf w 8
theorem z_in (h : WOk w) : (0 : Int) ≤ 0 ∧ (0 : Int) < w.length := by have := h.n; omega
theorem q_len (h : WOk w) (k : Nat) : (qf w k).length ≤ w.length := by
  rw [qf_len]; exact Bf.bf_len (z_in h) (web_ok h).to k
theorem q_end (h : WOk w) {k : Nat} (hk : (qf w k).length ≤ k) : qf w k = Q8 w := by
  have h8 : (qf w 8).length ≤ 8 := by have := q_len h 8; have := h.n; omega
  by_cases c : k ≤ 8
  · have := qf_stop hk (8 - k)
    rw [Q8, ← this]; congr 1; omega
  · have := qf_stop h8 (k - 8)
    rw [Q8, ← this]; congr 1; omega
theorem q8_keys : (Q8 w).map (·.1) = Bf.ord (G w) 0 := qf_keys 8
theorem qf_nd (k : Nat) : ((qf w k).map (·.1)).Nodup := by rw [qf_keys]; exact Bf.bf_nd k
theorem qf_in (h : WOk w) (k : Nat) : ∀ u ∈ qf w k, 0 ≤ u.1 ∧ u.1 < (w.length : Int) := by
  intro u hu
  have := Bf.bf_in (G := G w) (v := 0) (fun x => 0 ≤ x ∧ x < (w.length : Int)) (z_in h) (web_ok h).to k u.1
  rw [← qf_keys] at this
  exact this (List.mem_map.mpr ⟨u, hu, rfl⟩)
/-- a level at a time -/
def adl (w : Web μ) : Qu μ → Qu μ → Qu μ
  | A, [] => A
  | A, u :: us => adl w (addr u.2 A (stp w u.1)) us
theorem adl_qf : ∀ (us : Qu μ) (p : Nat), (∀ j, (hj : j < us.length) → (qf w (p + us.length))[p + j]? = some us[j]) → p + us.length ≤ (qf w p).length → adl w (qf w p) us = qf w (p + us.length)
  | [], p, _, _ => rfl
  | u :: us, p, h, hl => by
    have h0 := h 0 (by simp)
    have hp : p < (qf w p).length := by simp at hl; omega
    have q : (qf w p) <+: qf w (p + (u :: us).length) := qf_le (by omega)
    have e : (qf w p)[p]? = some u := by
      rw [Nat.add_zero, List.getElem?_eq_getElem (by have := q.length_le; omega)] at h0
      rw [List.getElem?_eq_getElem hp, q.getElem hp]; simpa using h0
    have e1 : addr u.2 (qf w p) (stp w u.1) = qf w (p + 1) := by rw [qf, e]
    rw [adl, e1]
    have el : p + (u :: us).length = (p + 1) + us.length := by simp; omega
    rw [adl_qf us (p + 1), el]
    · intro j hj
      have := h (j + 1) (by simp; omega)
      rw [el] at this
      rw [show p + 1 + j = p + (j + 1) by omega, this]; simp
    · have := (qf_s (w := w) p).length_le
      rw [← el]; exact Nat.le_trans hl this
theorem adl_all (p : Nat) (hp : p ≤ (qf w p).length) : adl w (qf w p) ((qf w p).drop p) = qf w (qf w p).length := by
  have e : p + ((qf w p).drop p).length = (qf w p).length := by simp; omega
  rw [← e]
  refine adl_qf _ p (fun j hj => ?_) (by omega)
  have q : (qf w p) <+: qf w (p + ((qf w p).drop p).length) := qf_le (by omega)
  have h2 : p + j < (qf w p).length := by simp at hj; omega
  rw [List.getElem?_eq_getElem (by have := q.length_le; omega), ← q.getElem h2]
  simp
/-- where level t begins -/
def bg (w : Web μ) : Nat → Nat
  | 0 => 0
  | t + 1 => (qf w (bg w t)).length
def Al (w : Web μ) (t : Nat) : Qu μ := qf w (bg w t)
def Ll (w : Web μ) (t : Nat) : Qu μ := (Al w t).drop (bg w t)
theorem bg_le : ∀ t, bg w t ≤ (Al w t).length
  | 0 => by simp [bg]
  | t + 1 => by
    unfold Al
    rw [bg]
    exact (qf_le (bg_le t)).length_le
theorem Al_s (t : Nat) : Al w (t + 1) = adl w (Al w t) (Ll w t) := by
  unfold Ll
  rw [Al, bg]
  exact (adl_all (bg w t) (bg_le t)).symm
theorem Al_cat (t : Nat) : Al w (t + 1) = Al w t ++ Ll w (t + 1) := by
  have p : Al w t <+: Al w (t + 1) := qf_le (bg_le t)
  obtain ⟨z, e⟩ := p
  have : bg w (t + 1) = (Al w t).length := rfl
  rw [Ll, this, ← e]; simp
theorem bg_grow (h : WOk w) : ∀ t, t ≤ bg w t ∨ Al w t = Q8 w
  | 0 => Or.inl (Nat.zero_le _)
  | t + 1 => by
    rcases bg_grow h t with hh | hh
    · by_cases c : (Al w t).length ≤ bg w t
      · right
        have e : Al w t = Q8 w := q_end h c
        have e2 : bg w (t + 1) = bg w t := by
          have := bg_le (w := w) t
          show (qf w (bg w t)).length = _
          unfold Al at c this; omega
        rw [Al, e2]; exact e
      · left
        show t + 1 ≤ (qf w (bg w t)).length
        unfold Al at c; omega
    · right
      have p : Al w t <+: Al w (t + 1) := qf_le (bg_le t)
      have h8 : (qf w 8).length ≤ 8 := by have := q_len h 8; have := h.n; omega
      have q : Al w (t + 1) <+: Q8 w := by
        by_cases c : bg w (t + 1) ≤ 8
        · exact qf_le c
        · rw [Al, show bg w (t+1) = 8 + (bg w (t + 1) - 8) by omega, qf_stop h8]; exact List.prefix_refl _
      rw [hh] at p
      exact q.eq_of_length_le p.length_le
theorem Al_8 (h : WOk w) {t : Nat} (ht : 8 ≤ t) : Al w t = Q8 w := by
  rcases bg_grow h t with hh | hh
  · have h8 : (qf w 8).length ≤ 8 := by have := q_len h 8; have := h.n; omega
    rw [Al, show bg w t = 8 + (bg w t - 8) by omega, qf_stop h8]; rfl
  · exact hh
def sw (u : Int × List μ) : List μ × Int := (u.2, u.1)
theorem addr_sub (r : List μ) : ∀ (ps : List (μ × Int)) (A : Qu μ), ∃ z, addr r A ps = A ++ z ∧ List.Sublist (z.map sw) (ps.map fun p => (r ++ [p.1], p.2))
  | [], A => ⟨[], by simp [addr], by simp⟩
  | p :: ps, A => by
    rw [addr]
    split
    · obtain ⟨z, e, h⟩ := addr_sub r ps A
      exact ⟨z, e, List.Sublist.cons _ h⟩
    · obtain ⟨z, e, h⟩ := addr_sub r ps (A ++ [(p.2, r ++ [p.1])])
      refine ⟨(p.2, r ++ [p.1]) :: z, by rw [e]; simp, ?_⟩
      rw [List.map_cons, List.map_cons]
      exact List.Sublist.cons₂ _ h
theorem adl_sub : ∀ (us A : Qu μ), ∃ z, adl w A us = A ++ z ∧ List.Sublist (z.map sw) ((us.map sw).flatMap (nxt w))
  | [], A => ⟨[], by simp [adl], by simp⟩
  | u :: us, A => by
    obtain ⟨z, e, h⟩ := addr_sub u.2 (stp w u.1) A
    obtain ⟨z2, e2, h2⟩ := adl_sub us (A ++ z)
    refine ⟨z ++ z2, by rw [adl, e, e2]; simp, ?_⟩
    rw [List.map_append, List.map_cons, List.flatMap_cons]
    exact List.Sublist.append h h2
theorem Ll_sub (t : Nat) : List.Sublist ((Ll w (t + 1)).map sw) (((Ll w t).map sw).flatMap (nxt w)) := by
  obtain ⟨z, e, h⟩ := adl_sub (w := w) (Ll w t) (Al w t)
  have := Al_cat (w := w) t
  rw [Al_s, e] at this
  rw [← List.append_cancel_left this]; exact h
theorem Ll_asc (h : ∀ st ∈ w, st.Pairwise fun p q => lt p.1 q.1) : ∀ t, Asc lt ((Ll w t).map sw)
  | 0 => by simp [Asc, Ll, Al, bg, qf]
  | t + 1 => (asc_flat h (Ll_asc h t)).sublist (Ll_sub t)
theorem nxt_len {l : List (List μ × Int)} {t : Nat} (h : ∀ r ∈ l, r.1.length = t) : ∀ r ∈ l.flatMap (nxt w), r.1.length = t + 1 := by
  intro r hr
  obtain ⟨q, hq, hr⟩ := List.mem_flatMap.mp hr
  obtain ⟨p, _, rfl⟩ := List.mem_map.mp hr
  simp [h q hq]
theorem Ll_rows : ∀ t, ∀ r ∈ (Ll w t).map sw, r.1.length = t
  | 0, r, hr => by
    simp only [Ll, Al, bg, qf, List.drop_zero, List.map_cons, List.map_nil, List.mem_singleton] at hr
    subst hr; rfl
  | t + 1, r, hr => nxt_len (Ll_rows t) r ((Ll_sub t).subset hr)
theorem Al_7 (h : WOk w) (h7 : w.length ≤ 7) : Al w 7 = Q8 w := by
  by_cases c : (Al w 7).length ≤ bg w 7
  · exact q_end h c
  · rcases bg_grow h 7 with hh | hh
    · have := q_len h (bg w 7)
      unfold Al at c; omega
    · exact hh
def fst? (e : Int → Bool) (l : Qu μ) : Option (List μ) := (l.find? fun u => e u.1).map (·.2)
theorem fst_cat (e : Int → Bool) (a b : Qu μ) : fst? e (a ++ b) = match fst? e a with
    | some r => some r
    | none => fst? e b := by
  unfold fst?
  rw [List.find?_append]
  cases h : a.find? fun u => e u.1 <;> simp
theorem Al_le (h : WOk w) (t : Nat) : (Al w t).length ≤ 8 := by have := q_len h (bg w t); have := h.n; unfold Al; omega
theorem Ll_mem {t : Nat} {u : Int × List μ} (hu : u ∈ Ll w t) : u ∈ Al w t := List.mem_of_mem_drop hu
theorem Al_in (h : WOk w) (t : Nat) : ∀ u ∈ Al w t, 0 ≤ u.1 ∧ u.1 < (w.length : Int) := qf_in h _
theorem Al_nd (t : Nat) : ((Al w t).map (·.1)).Nodup := qf_nd _
theorem Ll_0 : Ll w 0 = [(0, [])] := rfl
theorem Al_0 : Al w 0 = [(0, [])] := rfl
end Wb

namespace Lw
open PySem RT
theorem compL_gen {α : Type} {gt : FGt} {t : FT} {fe : FE} {env : FEn} {x : FRow} (enc : α → D) (p : α → Bool) (g : α → D) : ∀ (l : List α), (∀ a ∈ l, ∃ e, gt (enc a) env = some e ∧ t e x = some (p a, x) ∧ (p a = true → fe e x = some (g a, x))) → compL gt t fe env (l.map enc) x = some ((l.filter p).map g, x)
  | [], _ => rfl
  | a :: l, h => by
    obtain ⟨e, h1, h2, h3⟩ := h a (by simp)
    have ih := compL_gen enc p g l fun b hb => h b (by simp [hb])
    cases hp : p a with
    | true => simp [compL, h1, h2, h3 hp, hp, ih]
    | false => simp [compL, h1, h2, hp, ih]
theorem compL_map {α : Type} {gt : FGt} {t : FT} {fe : FE} {env : FEn} {x : FRow} (enc : α → D) (g : α → D) (l : List α) (h : ∀ a ∈ l, ∃ e, gt (enc a) env = some e ∧ t e x = some (true, x) ∧ fe e x = some (g a, x)) : compL gt t fe env (l.map enc) x = some (l.map g, x) := by
  rw [compL_gen enc (fun _ => true) g l fun a ha => by obtain ⟨e, h1, h2, h3⟩ := h a ha; exact ⟨e, h1, h2, fun _ => h3⟩]
  rw [List.filter_eq_self.mpr (by simp)]
theorem forL_inv {α β : Type} {gt : FGt} {b : FS} {x : FRow} (enc : α → D) (f : β → α → β) (R : β → FEn → Prop) : ∀ (l : List α) (s : β) (env : FEn), (∀ a ∈ l, ∀ s env, R s env → ∃ e e2, gt (enc a) env = some e ∧ b e x = some (.nx e2, x) ∧ R (f s a) e2) → R s env → ∃ e2, forL gt b (l.map enc) env x = some (.nx e2, x) ∧ R (l.foldl f s) e2
  | [], s, env, _, r => ⟨env, rfl, r⟩
  | a :: l, s, env, h, r => by
    obtain ⟨e, e2, h1, h2, h3⟩ := h a (by simp) s env r
    obtain ⟨e3, h4, h5⟩ := forL_inv enc f R l (f s a) e2 (fun b hb => h b (by simp [hb])) h3
    exact ⟨e3, by simp [forL, h1, h2, h4], h5⟩
theorem sSeq_nx {f h : FS} {env e1 : FEn} {x x1 : FRow} (a : f env x = some (.nx e1, x1)) : sSeq f h env x = h e1 x1 := by simp [sSeq, a]
theorem rgD_map (n : Nat) : rgD 0 n = (List.range n).map fun (i : Nat) => D.int (i : Int) := by simp [rgD]
theorem enD_map {α : Type} (enc : α → D) (l : List α) : enD (l.map enc) = l.zipIdx.map fun p => D.tuple [.int (p.2 : Int), enc p.1] := by
  unfold enD
  apply List.ext_getElem (by simp)
  intro i h1 h2
  simp
theorem atI_nat {α : Type} {l : List α} {i : Nat} {z : α} (h : l[i]? = some z) : L2.atI l (i : Int) = some z := by
  have hi : i < l.length := by
    by_cases c : i < l.length
    · exact c
    · rw [List.getElem?_eq_none (by omega)] at h; exact absurd h (by simp)
  unfold L2.atI L2.ixN
  rw [if_pos (by omega), if_pos (by omega)]
  simpa using h
theorem atI_int {α : Type} {l : List α} {i : Int} {z : α} (h0 : 0 ≤ i) (h : l[i.toNat]? = some z) : L2.atI l i = some z := by
  rw [show i = ((i.toNat : Nat) : Int) by omega]; exact atI_nat h
theorem atI_z0 {α : Type} {a : α} {l : List α} : L2.atI (a :: l) 0 = some a := atI_nat (i := 0) rfl
theorem atI_z1 {α : Type} {a b : α} {l : List α} : L2.atI (a :: b :: l) 1 = some b := atI_nat (i := 1) rfl
theorem atI_z2 {α : Type} {a b c : α} {l : List α} : L2.atI (a :: b :: c :: l) 2 = some c := atI_nat (i := 2) rfl
def P0 (d : D) : Prop := d = .none ∨ (∃ i, d = .int i) ∨ (∃ b, d = .str b ∧ PyData.strOk b = true) ∨ ∃ b, d = .bool b
def Pt : Nat → D → Prop
  | 0, d => P0 d
  | k + 1, d => P0 d ∨ ∃ ds, (d = .tuple ds ∨ d = .list ds) ∧ ds.length ≤ 1000 ∧ ∀ e ∈ ds, Pt k e
theorem lay_all : ∀ ds : List D, (∀ e ∈ ds, e.py.canLay0 = true) → PyData.canLayAll0 (pyAll ds) = true
  | [], _ => by simp [pyAll, PyData.canLayAll0]
  | d :: ds, h => by
    simp only [pyAll, PyData.canLayAll0, h d (by simp), lay_all ds fun e he => h e (by simp [he])]; rfl
theorem dep_all (k : Nat) : ∀ ds : List D, (∀ e ∈ ds, e.py.depth ≤ k) → PyData.depthAll (pyAll ds) ≤ k
  | [], _ => by simp [pyAll, PyData.depthAll]
  | d :: ds, h => by
    simp only [pyAll, PyData.depthAll]
    have := h d (by simp)
    have := dep_all k ds fun e he => h e (by simp [he])
    omega
theorem eq_all : ∀ ds : List D, (∀ e ∈ ds, PyData.eqv e.py e.py = true) → PyData.eqvAll (pyAll ds) (pyAll ds) = true
  | [], _ => by simp [pyAll, PyData.eqvAll]
  | d :: ds, h => by
    simp only [pyAll, PyData.eqvAll, h d (by simp), eq_all ds fun e he => h e (by simp [he])]; rfl
theorem P0.ok {d : D} (h : P0 d) : d.py.canLay0 = true ∧ d.py.depth = 0 ∧ PyData.eqv d.py d.py = true := by
  rcases h with rfl | ⟨i, rfl⟩ | ⟨b, rfl, hb⟩ | ⟨b, rfl⟩ <;> simp_all [D.py, PyData.canLay0, PyData.depth, PyData.eqv]
theorem Pt.ok : ∀ {k : Nat} {d : D}, Pt k d → d.py.canLay0 = true ∧ d.py.depth ≤ k ∧ PyData.eqv d.py d.py = true
  | 0, d, h => by have := P0.ok h; exact ⟨this.1, by omega, this.2.2⟩
  | k + 1, d, h => by
    rcases h with h | ⟨ds, e, _, h⟩
    · have := P0.ok h; exact ⟨this.1, by omega, this.2.2⟩
    · have h1 := lay_all ds fun e he => (Pt.ok (h e he)).1
      have h2 := dep_all k ds fun e he => (Pt.ok (h e he)).2.1
      have h3 := eq_all ds fun e he => (Pt.ok (h e he)).2.2
      rcases e with rfl | rfl <;> simp [D.py, PyData.canLay0, PyData.depth, PyData.eqv, h1, h2, h3]
theorem Pt.sh {k : Nat} {d : D} (h : Pt k d) (hk : k ≤ 64) : shapedD d = true := by
  have := h.ok
  simp [shapedD, SeqAt.shaped, this.1, Nat.le_trans this.2.1 hk]
theorem Pt.rf {k : Nat} {d : D} (h : Pt k d) (hk : k ≤ 64) : gEq d d = some (.bool true) := by
  simp [gEq, h.sh hk, eqD, h.ok.2.2]
theorem Pt.nrf {k : Nat} {d : D} (h : Pt k d) (hk : k ≤ 64) : gNe d d = some (.bool false) := by
  simp [gNe, h.sh hk, eqD, h.ok.2.2]
theorem Pt.up : ∀ {k : Nat} {d : D}, Pt k d → Pt (k + 1) d
  | 0, d, h => Or.inl h
  | k + 1, d, h => by
    rcases h with h | ⟨ds, e, l, h⟩
    · exact Or.inl h
    · exact Or.inr ⟨ds, e, l, fun z hz => Pt.up (h z hz)⟩
theorem Pt.le {k j : Nat} {d : D} (h : Pt k d) (hj : k ≤ j) : Pt j d := by
  induction j with
  | zero => have : k = 0 := by omega
            subst this; exact h
  | succ j ih =>
    by_cases c : k = j + 1
    · subst c; exact h
    · exact (ih (by omega)).up
theorem sh_int (i : Int) : shapedD (.int i) = true := by simp [shapedD, SeqAt.shaped, D.py, PyData.canLay0, PyData.depth]
theorem sh_bool (i : Bool) : shapedD (.bool i) = true := by simp [shapedD, SeqAt.shaped, D.py, PyData.canLay0, PyData.depth]
theorem sh_ints (l : List Int) : shapedD (.list (l.map .int)) = true := by
  have h1 := lay_all (l.map D.int) (by simp [D.py, PyData.canLay0])
  have h2 := dep_all 0 (l.map D.int) (by simp [D.py, PyData.depth])
  simp only [shapedD, SeqAt.shaped, D.py, PyData.canLay0, PyData.depth, h1, Bool.true_and, decide_eq_true_eq]
  omega
theorem ne_int (i j : Int) : gNe (.int i) (.int j) = some (.bool (!decide (i = j))) := by
  simp [gNe, sh_int, eqD, D.py, PyData.eqv]
  by_cases h : i = j <;> simp [h]
theorem eq_int (i j : Int) : gEq (.int i) (.int j) = some (.bool (decide (i = j))) := by
  simp [gEq, sh_int, eqD, D.py, PyData.eqv]
  by_cases h : i = j <;> simp [h]
theorem ne_bool (i j : Bool) : gNe (.bool i) (.bool j) = some (.bool (i != j)) := by
  cases i <;> cases j <;> simp [gNe, sh_bool, eqD, D.py, PyData.eqv]
theorem eq_bool (i j : Bool) : gEq (.bool i) (.bool j) = some (.bool (i == j)) := by
  cases i <;> cases j <;> simp [gEq, sh_bool, eqD, D.py, PyData.eqv]
theorem ne_nil (l : List Int) : gNe (.list (l.map .int)) (.list []) = some (.bool (!l.isEmpty)) := by
  have h := sh_ints l
  have h0 := sh_ints []
  rw [List.map_nil] at h0
  simp only [gNe, h, h0, Bool.true_and, if_true]
  cases l <;> simp [eqD, D.py, pyAll, PyData.eqv, PyData.eqvAll]
theorem any_int (t : Int) (l : List Int) : ((l.map D.int).any fun z => eqD z (.int t)) = decide (t ∈ l) := by
  induction l with
  | nil => rfl
  | cons a l ih =>
    rw [List.map_cons, List.any_cons, ih]
    simp only [eqD, D.py, PyData.eqv, List.mem_cons]
    by_cases h : a = t
    · simp [h]
    · have : ¬ t = a := fun h2 => h h2.symm
      simp [h, this]
theorem in_ints (t : Int) (l : List Int) : gIn (.int t) (.list (l.map .int)) = some (.bool (decide (t ∈ l))) := by
  have h := sh_ints l
  simp only [gIn, h, sh_int, any_int, Bool.and_self, if_true]
theorem notin_ints (t : Int) (l : List Int) : gNotIn (.int t) (.list (l.map .int)) = some (.bool (!decide (t ∈ l))) := by
  have h := sh_ints l
  simp only [gNotIn, h, sh_int, any_int, Bool.and_self, if_true]
def dS (l : List Int) : List (D × D) := l.map fun i => (D.int i, D.bool true)
theorem dS_any (t : Int) (l : List Int) : ((dS l).any fun p => decide (dKey p.1 = some (.inl t))) = decide (t ∈ l) := by
  induction l with
  | nil => rfl
  | cons a l ih =>
    have : dS (a :: l) = (D.int a, D.bool true) :: dS l := rfl
    rw [this, List.any_cons, ih]
    simp only [dKey, List.mem_cons, Option.some.injEq, Sum.inl.injEq]
    by_cases h : a = t
    · simp [h]
    · have : ¬ t = a := fun h2 => h h2.symm
      simp [h, this]
theorem dS_val (t : Int) (l : List Int) : (valD dKey (dS l) (.inl t)).isSome = decide (t ∈ l) := by
  rw [← dS_any]
  simp only [valD, Option.isSome_map, List.isSome_find?]
theorem dS_notin (t : Int) (l : List Int) : gNotInA (.int t) (.dict (dS l)) = some (.bool (!decide (t ∈ l))) := by
  simp only [gNotInA, gDNotIn, gDGet, dKey, dS_val]
theorem dS_put (t : Int) (l : List Int) : putD dKey (dS l) (.int t) (.inl t) (.bool true) = dS (Bf.adds l [t]) := by
  unfold putD
  rw [dS_any, Bf.adds_cons, Bf.adds_nil]
  by_cases h : t ∈ l
  · rw [if_pos (by simpa using h), if_pos h]
    unfold dS
    rw [List.map_map]
    refine List.map_congr_left fun i _ => ?_
    simp only [Function.comp]
    split <;> rfl
  · rw [if_neg (by simpa using h), if_neg h]
    simp [dS]
theorem alike_base {k : Nat} {d : D} (h0 : P0 d) : m_law_alike (k + 1) [d, d] = some (.bool true) := by
  have e := Pt.rf (k := 0) h0 (by omega)
  rcases h0 with rfl | ⟨i, rfl⟩ | ⟨b, rfl, hb⟩ | ⟨b, rfl⟩ <;> simp [m_law_alike, b_law_alike, fVar, fBor, fC, aNil, aCons, fTup, fLst, fBin, fTst, fChain, fAnd, fOr, fNot, fNeg, tAndF, tOrF, tNotF, fTru, fIf, fSl, oNone, oSome, fCall, fCallR, fRow, fRowLen, fRowAt, sSet, sPars, setsE, xVal, xLst, xNew, xDict1, sRet, sNo, sNil, sSeq, sIf, eFrz, sFrz, sUnp, gtName, gtNil, gtCons, gtTup, fSeq, sAug, sDrop, sApp, sExt, sDPut, fOfX, sRow, xsNil, xsCons, fIsi, fIsi2, okRg, fRg1, fRg2, fEn, mkF, mkR, startE, tYesF, OwD.d, sFor, xLc, xDc, wipeE, truD, isNoneD, gIsN, gNotN, isiD, maxLen, gI, gOr, gAdd, gMul, gCatT, gCatL, gLtX, gLt, gLen, gInt, gTupOf, gListOf, gAt, pMod, pDiv, pMul, pPow, e, eq_bool]
theorem lc_eq {f : FA} {gt : FGt} {t : FT} {fe : FE} {vs : List Nat} {env : FEn} {x : FRow} {ds rs : List D} (h1 : f env x = some (ds, x)) (h2 : compL gt t fe (wipeE env vs) ds x = some (rs, x)) (h3 : rs.length < maxLen) : fOfX (xLc f gt t fe vs) env x = some (.list rs, x) := by
  simp [fOfX, xLc, h1, h2, h3, OwD.d]
theorem law_alike_s (k : Nat) (ds : List D) : m_law_alike (k + 1) ds = mkF 3 2 (b_law_alike (m_law_alike k)) ds := by
  rfl
theorem mkF_rt {n k : Nat} {b : FS} {ds : List D} {d : D} {x : FRow} (hk : ds.length = k) (h : b (startE n ds) row0 = some (.rt d, x)) : mkF n k b ds = some d := by
  simp [mkF, hk, h]
theorem rg_ok {n : Nat} (h : n ≤ 1000) : okRg (n : Int) = true := by
  simp only [okRg, decide_eq_true_eq]; omega
theorem alike_step {rec : List D → Option D} {d : D} {ds : List D} (e : d = .tuple ds ∨ d = .list ds) (hl : ds.length ≤ 1000) (h : compL (gtName 2) (tNotF (fTru (fCall rec (aCons (fBin gAt (fBor 0) (fBor 2)) (aCons (fBin gAt (fBor 1) (fBor 2)) aNil))))) (fVar 2) [.va d, .va d, .no] (rgD 0 ds.length) row0 = some ([], row0)) : mkF 3 2 (b_law_alike rec) [d, d] = some (.bool true) := by
  have e0 : gEq (.list []) (.list []) = some (.bool true) := Pt.rf (k := 1) (Or.inr ⟨[], Or.inr rfl, by simp, by simp⟩) (by omega)
  have hk := rg_ok hl
  have h3 : fOfX (xLc (fRg1 (fCall gLen (aCons (fBor 1) aNil))) (gtName 2) (tNotF (fTru (fCall rec (aCons (fBin gAt (fBor 0) (fBor 2)) (aCons (fBin gAt (fBor 1) (fBor 2)) aNil))))) (fVar 2) [2]) [.va d, .va d, .no] row0 = some (.list [], row0) := by
    refine lc_eq (ds := rgD 0 ds.length) ?_ ?_ (by simp [maxLen])
    · rcases e with rfl | rfl <;> simp [fRg1, fCall, fBor, aCons, aNil, gLen, hk]
    · exact h
  have hl0 : fLst aNil [.va d, .va d, .no] row0 = some (.list [], row0) := by simp [fLst, aNil]
  have t1 : fTru (fIsi2 .tuple .list (fBor 1)) [.va d, .va d, .no] row0 = some (true, row0) := by
    rcases e with rfl | rfl <;> simp [fTru, fIsi2, fBor, isiD, truD]
  have t0 : fTru (fIsi2 .tuple .list (fBor 0)) [.va d, .va d, .no] row0 = some (true, row0) := by
    rcases e with rfl | rfl <;> simp [fTru, fIsi2, fBor, isiD, truD]
  have t2 : fTst (fBin gNe (fIsi .list (fBor 0)) (fIsi .list (fBor 1))) [.va d, .va d, .no] row0 = some (false, row0) := by
    rcases e with rfl | rfl <;> simp [fTst, fBin, fIsi, fBor, isiD, ne_bool]
  have t3 : fTst (fBin gNe (fCall gLen (aCons (fBor 0) aNil)) (fCall gLen (aCons (fBor 1) aNil))) [.va d, .va d, .no] row0 = some (false, row0) := by
    rcases e with rfl | rfl <;> simp [fTst, fBin, fCall, aCons, aNil, fBor, gLen, ne_int]
  have t4 : b_law_alike rec [.va d, .va d, .no] row0 = some (.rt (.bool true), row0) := by
    simp only [b_law_alike, sSeq, sIf, tOrF, tNotF, t0, t1, t2, t3, sNil, sRet, fBin, h3, hl0, e0, Bool.not_true]
  exact mkF_rt rfl t4
theorem alike_ok (k : Nat) : ∀ {d : D}, Pt k d → m_law_alike (k + 1) [d, d] = some (.bool true) := by
  induction k with
  | zero => exact fun h => alike_base h
  | succ k ih =>
    intro d h
    rcases h with h | ⟨ds, e, hl, h⟩
    · exact alike_base h
    · have hr : ∀ x : FRow, ∀ d' : D, (d' = .tuple ds ∨ d' = .list ds) → compL (gtName 2) (tNotF (fTru (fCall (m_law_alike (k + 1)) (aCons (fBin gAt (fBor 0) (fBor 2)) (aCons (fBin gAt (fBor 1) (fBor 2)) aNil))))) (fVar 2) [.va d', .va d', .no] (rgD 0 ds.length) x = some ([], x) := by
        intro x d' hd'
        rw [rgD_map]
        rw [compL_gen (fun (i : Nat) => D.int (i : Int)) (fun _ => false) (fun _ => .none) (List.range ds.length)]
        · simp
        · intro i hi
          have hi' : i < ds.length := by simpa using hi
          have hz : ds[i]? = some ds[i] := List.getElem?_eq_getElem hi'
          have ha := atI_nat hz
          have hm := ih (h ds[i] (List.getElem_mem hi'))
          refine ⟨_, rfl, ?_, by simp⟩
          rcases hd' with rfl | rfl <;> simp [fVar, fBor, fC, aNil, aCons, fTup, fLst, fBin, fTst, fChain, fAnd, fOr, fNot, fNeg, tAndF, tOrF, tNotF, fTru, fIf, fSl, oNone, oSome, fCall, fCallR, fRow, fRowLen, fRowAt, sSet, sPars, setsE, xVal, xLst, xNew, xDict1, sRet, sNo, sNil, sSeq, sIf, eFrz, sFrz, sUnp, gtName, gtNil, gtCons, gtTup, fSeq, sAug, sDrop, sApp, sExt, sDPut, fOfX, sRow, xsNil, xsCons, fIsi, fIsi2, okRg, fRg1, fRg2, fEn, mkF, mkR, startE, tYesF, OwD.d, sFor, xLc, xDc, wipeE, truD, isNoneD, gIsN, gNotN, isiD, maxLen, gI, gOr, gAdd, gMul, gCatT, gCatL, gLtX, gLt, gLen, gInt, gTupOf, gListOf, gAt, pMod, pDiv, pMul, pPow, ha, hm]
      rw [law_alike_s]
      exact alike_step e hl (hr row0 d e)
theorem is_number_eq (i a b : Int) : m_is_number [.int i, .int a, .int b] = some (.bool (decide (a ≤ i) && decide (i ≤ b))) := by
  by_cases h1 : a ≤ i <;> by_cases h2 : i ≤ b <;> simp [m_is_number, b_is_number, fVar, fBor, fC, aNil, aCons, fTup, fLst, fBin, fTst, fChain, fAnd, fOr, fNot, fNeg, tAndF, tOrF, tNotF, fTru, fIf, fSl, oNone, oSome, fCall, fCallR, fRow, fRowLen, fRowAt, sSet, sPars, setsE, xVal, xLst, xNew, xDict1, sRet, sNo, sNil, sSeq, sIf, eFrz, sFrz, sUnp, gtName, gtNil, gtCons, gtTup, fSeq, sAug, sDrop, sApp, sExt, sDPut, fOfX, sRow, xsNil, xsCons, fIsi, fIsi2, okRg, fRg1, fRg2, fEn, mkF, mkR, startE, tYesF, OwD.d, sFor, xLc, xDc, wipeE, truD, isNoneD, gIsN, gNotN, isiD, maxLen, gI, gOr, gAdd, gMul, gCatT, gCatL, gLtX, gLt, gLen, gInt, gTupOf, gListOf, gAt, pMod, pDiv, pMul, pPow, h1, h2]
theorem has_items_eq (ds : List D) (a b : Int) : m_has_items [.tuple ds, .int a, .int b] = some (.bool (decide (a ≤ ds.length) && decide ((ds.length : Int) ≤ b))) := by
  by_cases h1 : a ≤ ds.length <;> by_cases h2 : (ds.length : Int) ≤ b <;> simp [m_has_items, b_has_items, fVar, fBor, fC, aNil, aCons, fTup, fLst, fBin, fTst, fChain, fAnd, fOr, fNot, fNeg, tAndF, tOrF, tNotF, fTru, fIf, fSl, oNone, oSome, fCall, fCallR, fRow, fRowLen, fRowAt, sSet, sPars, setsE, xVal, xLst, xNew, xDict1, sRet, sNo, sNil, sSeq, sIf, eFrz, sFrz, sUnp, gtName, gtNil, gtCons, gtTup, fSeq, sAug, sDrop, sApp, sExt, sDPut, fOfX, sRow, xsNil, xsCons, fIsi, fIsi2, okRg, fRg1, fRg2, fEn, mkF, mkR, startE, tYesF, OwD.d, sFor, xLc, xDc, wipeE, truD, isNoneD, gIsN, gNotN, isiD, maxLen, gI, gOr, gAdd, gMul, gCatT, gCatL, gLtX, gLt, gLen, gInt, gTupOf, gListOf, gAt, pMod, pDiv, pMul, pPow, h1, h2]
end Lw

namespace Lw
open PySem RT
theorem mkF_nx {n k : Nat} {b : FS} {ds : List D} {e : FEn} {x : FRow} (hk : ds.length = k) (h : b (startE n ds) row0 = some (.nx e, x)) : mkF n k b ds = some .none := by
  simp [mkF, hk, h]
theorem intsD_map : ∀ l : List Int, intsD (l.map .int) = some l
  | [] => rfl
  | a :: l => by simp [intsD, intsD_map l]
theorem bools_map {α : Type} (f : α → Bool) : ∀ l : List α, bools (l.map fun a => .bool (f a)) = some (l.map f)
  | [] => rfl
  | a :: l => by simp [bools, bools_map f l]
theorem whL_inv {t : FT} {b : FS} {x : FRow} (R : Nat → FEn → Prop) (stop : Nat) (h : ∀ k env, R k env → k < stop → t env x = some (true, x) ∧ ∃ e2, b env x = some (.nx e2, x) ∧ R (k + 1) e2) (he : ∀ env, R stop env → t env x = some (false, x)) : ∀ (fuel k : Nat) (env : FEn), R k env → k ≤ stop → stop - k < fuel → ∃ e2, whL t b fuel env x = some (.nx e2, x) ∧ R stop e2
  | 0, _, _, _, _, hf => by omega
  | fuel + 1, k, env, r, hk, hf => by
    by_cases c : k = stop
    · subst c
      exact ⟨env, by simp [whL, he env r], r⟩
    · obtain ⟨h1, e2, h2, h3⟩ := h k env r (by omega)
      obtain ⟨e3, h4, h5⟩ := whL_inv R stop h he fuel (k + 1) e2 h3 (by omega) (by omega)
      exact ⟨e3, by simp [whL, h1, h2, h4], h5⟩
theorem first_ex {P : Nat → Prop} : ∀ N, P N → ∃ k, k ≤ N ∧ P k ∧ ∀ j, j < k → ¬ P j
  | 0, h => ⟨0, by omega, h, fun j hj => by omega⟩
  | N + 1, h => by
    by_cases c : ∃ j, j ≤ N ∧ P j
    · obtain ⟨j, hj, pj⟩ := c
      have : ∀ M, M ≤ N → P M → ∃ k, k ≤ M ∧ P k ∧ ∀ j, j < k → ¬ P j := by
        intro M
        induction M using Nat.strongRecOn with
        | ind M ih =>
          intro hM pM
          by_cases d : ∃ i, i < M ∧ P i
          · obtain ⟨i, hi, pi⟩ := d
            obtain ⟨k, k1, k2, k3⟩ := ih i hi (by omega) pi
            exact ⟨k, by omega, k2, k3⟩
          · exact ⟨M, by omega, pM, fun i hi pi => d ⟨i, hi, pi⟩⟩
      obtain ⟨k, k1, k2, k3⟩ := this j hj pj
      exact ⟨k, by omega, k2, k3⟩
    · exact ⟨N + 1, by omega, h, fun j hj pj => c ⟨j, by omega, pj⟩⟩
theorem adds1_len (acc : List Int) (t : Int) : (Bf.adds acc [t]).length ≤ acc.length + 1 := by
  rw [Bf.adds_cons, Bf.adds_nil]; split <;> simp
theorem adds_len (ts : List Int) : ∀ acc : List Int, (Bf.adds acc ts).length ≤ acc.length + ts.length := by
  induction ts with
  | nil => intro acc; simp [Bf.adds_nil]
  | cons t ts ih => intro acc; have := ih (Bf.adds acc [t]); have := adds1_len acc t; rw [show Bf.adds acc (t :: ts) = Bf.adds (Bf.adds acc [t]) ts from rfl]; simp only [List.length_cons]; omega
theorem forL_find {α : Type} {gt : FGt} {b : FS} {x : FRow} (enc : α → D) (p : α → Bool) (d : D) (R : FEn → Prop) : ∀ (l : List α) (env : FEn), (∀ a ∈ l, ∀ env, R env → ∃ e, gt (enc a) env = some e ∧ (p a = true → b e x = some (.rt d, x)) ∧ (p a = false → ∃ e2, b e x = some (.nx e2, x) ∧ R e2)) → R env →
    (l.any p = true → forL gt b (l.map enc) env x = some (.rt d, x)) ∧ (l.any p = false → ∃ e2, forL gt b (l.map enc) env x = some (.nx e2, x) ∧ R e2)
  | [], env, _, r => ⟨by simp, fun _ => ⟨env, rfl, r⟩⟩
  | a :: l, env, h, r => by
    obtain ⟨e, h1, h2, h3⟩ := h a (by simp) env r
    cases hp : p a with
    | true => exact ⟨fun _ => by simp [forL, h1, h2 hp], fun h => by simp [hp] at h⟩
    | false =>
      obtain ⟨e2, h4, h5⟩ := h3 hp
      have ih := forL_find enc p d R l e2 (fun b hb => h b (by simp [hb])) h5
      constructor
      · intro hh
        have := ih.1 (by simpa [hp] using hh)
        simp [forL, h1, h4, this]
      · intro hh
        obtain ⟨e3, h6, h7⟩ := ih.2 (by simpa [hp] using hh)
        exact ⟨e3, by simp [forL, h1, h4, h6], h7⟩
theorem P0i (i : Int) : P0 (.int i) := Or.inr (Or.inl ⟨i, rfl⟩)
theorem pt_ints {l : List Int} (h : l.length ≤ 1000) : Pt 1 (.tuple (l.map .int)) := by
  refine Or.inr ⟨_, Or.inl rfl, by simpa using h, ?_⟩
  intro e he
  obtain ⟨i, _, rfl⟩ := List.mem_map.mp he
  exact P0i i
theorem alike9 {d : D} (h : Pt 5 d) : m_law_alike 9 [d, d] = some (.bool true) := alike_ok 8 (h.le (by omega))
theorem tupOf_ok {F : FE} {env : FEn} {x x1 : FRow} {ds : List D} (h : F env x = some (.list ds, x1)) : fCall gTupOf (aCons F aNil) env x = some (.tuple ds, x1) := by
  simp only [fCall, aCons, aNil, h, gTupOf]
theorem fTup_ok {t : FA} {env : FEn} {x x1 : FRow} {ds : List D} (h : t env x = some (ds, x1)) (hl : ds.length ≤ maxLen) : fTup t env x = some (.tuple ds, x1) := by
  simp only [fTup, h, if_pos hl]
theorem fBin_cat {fa fb : FE} {env : FEn} {x x1 x2 : FRow} {xs ys : List D} (h : fa env x = some (.tuple xs, x1)) (h' : fb env x1 = some (.tuple ys, x2)) (hl : xs.length + ys.length ≤ maxLen) : fBin gAdd fa fb env x = some (.tuple (xs ++ ys), x2) := by
  simp only [fBin, h, h', gAdd, gOr, gI, gCatT, if_pos hl]
theorem aCons2 {fa fb : FE} {env : FEn} {x x1 x2 : FRow} {d e : D} (h : fa env x = some (d, x1)) (h' : fb env x1 = some (e, x2)) : aCons fa (aCons fb aNil) env x = some ([d, e], x2) := by
  simp only [aCons, aNil, h, h']
theorem nob {α : Type} (l : List α) (h : l.length ≤ 100) : l.length < maxLen := by simp only [maxLen]; omega
theorem fLst_ok {t : FA} {env : FEn} {x x1 : FRow} {ds : List D} (h : t env x = some (ds, x1)) (hl : ds.length ≤ maxLen) : fLst t env x = some (.list ds, x1) := by
  simp only [fLst, h, if_pos hl]
theorem ml (k : Nat) (h : k ≤ 1000) : k ≤ maxLen := by simp only [maxLen]; omega
theorem sSet_va {i : Nat} {f : FE} {env : FEn} {x x1 : FRow} {d : D} (h : f env x = some (d, x1)) : sSet i (xVal f) env x = some (.nx (env.set i (.va d)), x1) := by
  simp only [sSet, xVal, h]
theorem fOr_eq {fa fb : FE} {env : FEn} {x : FRow} {a b : Bool} (h : fa env x = some (.bool a, x)) (h' : fb env x = some (.bool b, x)) : fOr fa fb env x = some (.bool (a || b), x) := by
  cases a <;> simp only [fOr, h, h', Bool.true_or, Bool.false_or]
theorem fAnd_eq {fa fb : FE} {env : FEn} {x : FRow} {a b : Bool} (h : fa env x = some (.bool a, x)) (h' : fb env x = some (.bool b, x)) : fAnd fa fb env x = some (.bool (a && b), x) := by
  cases a <;> simp only [fAnd, h, h', Bool.true_and, Bool.false_and]
theorem fBin_eq {gd : D → D → Option D} {fa fb : FE} {env : FEn} {x x1 x2 : FRow} {d e r : D} (h : fa env x = some (d, x1)) (h' : fb env x1 = some (e, x2)) (hg : gd d e = some r) : fBin gd fa fb env x = some (r, x2) := by
  simp only [fBin, h, h', hg]
theorem fCall_eq {m : List D → Option D} {fa : FA} {env : FEn} {x x1 : FRow} {ds : List D} {r : D} (h : fa env x = some (ds, x1)) (hm : m ds = some r) : fCall m fa env x = some (r, x1) := by
  simp only [fCall, h, hm]
theorem aCons1 {fa : FE} {env : FEn} {x x1 : FRow} {d : D} (h : fa env x = some (d, x1)) : aCons fa aNil env x = some ([d], x1) := by
  simp only [aCons, aNil, h]
theorem fCallR_eq {i : Nat} {m : List D → FRow → Option (D × FRow)} {fa : FA} {env : FEn} {x x1 x2 : FRow} {ds : List D} {r : D} (he : env[i]? = some .rw) (h : fa env x = some (ds, x1)) (hm : m ds x1 = some (r, x2)) : fCallR i m fa env x = some (r, x2) := by
  simp only [fCallR, he, h, hm]
theorem aCons_eq {f : FE} {t : FA} {env : FEn} {x x1 x2 : FRow} {d : D} {ds : List D} (h : f env x = some (d, x1)) (h' : t env x1 = some (ds, x2)) : aCons f t env x = some (d :: ds, x2) := by
  simp only [aCons, h, h']
theorem alike_c {fa fb : FE} {env : FEn} {x : FRow} {d : D} (h : fa env x = some (d, x)) (h' : fb env x = some (d, x)) (hp : Pt 5 d) : fCall (m_law_alike 9) (aCons fa (aCons fb aNil)) env x = some (.bool true, x) := fCall_eq (aCons2 h h') (alike9 hp)
theorem alike_t {fa fb : FE} {env : FEn} {x : FRow} {d : D} (h : fa env x = some (d, x)) (h' : fb env x = some (d, x)) (hp : Pt 5 d) : tNotF (fTru (fCall (m_law_alike 9) (aCons fa (aCons fb aNil)))) env x = some (false, x) := by
  have := alike_c h h' hp
  simp only [tNotF, fTru, this, truD, Bool.not_true]
theorem if_no {t : FT} {f : FS} {env : FEn} {x : FRow} (h : t env x = some (false, x)) : sIf t f sNil env x = some (.nx env, x) := by
  simp only [sIf, h, sNil]
theorem or_no {t u : FT} {env : FEn} {x : FRow} (h : t env x = some (false, x)) (h' : u env x = some (false, x)) : tOrF t u env x = some (false, x) := by
  simp only [tOrF, h, h']
theorem prog {m : List D → Option D} {i : Nat} {env : FEn} {x : FRow} {d r : D} (h : fVar i env x = some (d, x)) (hm : m [d] = some r) : fCall m (aCons (fVar i) aNil) env x = some (r, x) := fCall_eq (aCons1 h) hm
theorem pt_b (b : Bool) : Pt 5 (.bool b) := Pt.le (k := 0) (Or.inr (Or.inr (Or.inr ⟨b, rfl⟩))) (by omega)
theorem for_eq {f : FA} {gt : FGt} {b : FS} {env : FEn} {x x1 : FRow} {ds : List D} {r : Option (FRs × FRow)} (h : f env x = some (ds, x1)) (hr : forL gt b ds env x1 = r) : sFor f gt b env x = r := by
  simp only [sFor, h, hr]
theorem xLst_ok {t : FA} {env : FEn} {x x1 : FRow} {ds : List D} (h : t env x = some (ds, x1)) (hl : ds.length ≤ maxLen) : xLst t env x = some (.ow (.lst ds), x1) := by
  simp only [xLst, h, if_pos hl]
theorem taken_ok {x : FRow} {many : Int} (ha : 0 ≤ x.a) (hm : 0 < many) (hs : many < 1073741824) : ∃ r x', m_law_taken [.int many] x = some (.int r, x') ∧ 0 ≤ r ∧ r < many ∧ 0 ≤ x'.a := by
  obtain ⟨ns, a, b, c⟩ := x
  simp only at ha
  have hmod : ∀ z : Int, 0 ≤ z % many ∧ z % many < many := fun z => ⟨Int.emod_nonneg _ (by omega), Int.emod_lt_of_pos _ hm⟩
  simp only [m_law_taken, mkR, startE, b_law_taken]
  by_cases hc : 0 < c
  · refine ⟨c % many, ⟨ns, a, b, c / many⟩, ?_, (hmod c).1, (hmod c).2, ha⟩
    simp [sSeq, sIf, sSet, sRow, sRet, sNil, sAug, fTst, fBin, fRow, fC, fCall, fRowLen, fRowAt, fVar, fBor, xVal, aCons, aNil, gI, gInt, gOr, gAdd, gMul, gAddI, gMulI, pMod, pDiv, pMul, hc, hm, hs]
  · by_cases hl : (ns.length : Int) < a + 1
    · refine ⟨((b * 48271 + 11) % 2147483647 / 7) % many, ⟨ns, a + 1, (b * 48271 + 11) % 2147483647, c⟩, ?_, (hmod _).1, (hmod _).2, by simp only; omega⟩
      simp [sSeq, sIf, sSet, sRow, sRet, sNil, sAug, fTst, fBin, fRow, fC, fCall, fRowLen, fRowAt, fVar, fBor, xVal, aCons, aNil, gI, gInt, gOr, gAdd, gMul, gAddI, gMulI, pMod, pDiv, pMul, hc, hm, hs, hl]
    · have hlt : a.toNat < ns.length := by omega
      have hat : L2.atI ns a = some ns[a.toNat] := atI_int ha (List.getElem?_eq_getElem hlt)
      generalize ns[a.toNat] = f at hat
      by_cases hf : (1000000000000000000 : Int) ≤ f
      · refine ⟨f % many, ⟨ns, a + 1, (b * 48271 + f + 11) % 2147483647, f / many⟩, ?_, (hmod _).1, (hmod _).2, by simp only; omega⟩
        simp [sSeq, sIf, sSet, sRow, sRet, sNil, sAug, fTst, fBin, fRow, fC, fCall, fRowLen, fRowAt, fVar, fBor, xVal, aCons, aNil, gI, gInt, gOr, gAdd, gMul, gAddI, gMulI, pMod, pDiv, pMul, pPow, hc, hm, hs, hl, hat, hf]
      · refine ⟨f % many, ⟨ns, a + 1, (b * 48271 + f + 11) % 2147483647, c⟩, ?_, (hmod _).1, (hmod _).2, by simp only; omega⟩
        simp [sSeq, sIf, sSet, sRow, sRet, sNil, sAug, fTst, fBin, fRow, fC, fCall, fRowLen, fRowAt, fVar, fBor, xVal, aCons, aNil, gI, gInt, gOr, gAdd, gMul, gAddI, gMulI, pMod, pDiv, pMul, pPow, hc, hm, hs, hl, hat, hf]
theorem pt_int (i : Int) : Pt 5 (.int i) := Pt.le (k := 0) (P0i i) (by omega)
theorem pick_ok {l : List D} (h1 : l ≠ []) (h2 : l.length ≤ 1000) {x : FRow} (hx : 0 ≤ x.a) : ∃ d x', d ∈ l ∧ m_law_pick [.list l] x = some (d, x') ∧ 0 ≤ x'.a := by
  have hl : 0 < l.length := List.length_pos_iff.mpr h1
  obtain ⟨r, x', e, ra, rb, hx'⟩ := taken_ok (many := (l.length : Int)) hx (by omega) (by omega)
  have hr : r.toNat < l.length := by omega
  refine ⟨l[r.toNat], x', List.getElem_mem hr, ?_, hx'⟩
  have c : b_law_pick [.rw, .va (.list l)] x = some (.rt l[r.toNat], x') := by
    have e1 : fCall gLen (aCons (fBor 1) aNil) [.rw, .va (.list l)] x = some (.int (l.length : Nat), x) := rfl
    have e2 := fCallR_eq (i := 0) (env := [FSl.rw, .va (.list l)]) rfl (aCons1 e1) e
    have e3 := fBin_eq (gd := gAt) (fa := fBor 1) (env := [FSl.rw, .va (.list l)]) (x := x) (d := .list l) rfl e2 (by
      show L2.atI l r = _
      exact atI_int ra (List.getElem?_eq_getElem hr))
    simp only [b_law_pick, sRet, e3]
  show mkR 1 1 b_law_pick _ x = _
  simp only [mkR, List.length_cons, List.length_nil, if_true]
  rw [show FSl.rw :: startE 1 [D.list l] = [.rw, .va (.list l)] from rfl, c]
end Lw

namespace Lw
open PySem RT Wb
/-! webs of marks that are tuples of ints and texts -/
abbrev Mk := List L2.Key
def mD (m : Mk) : D := .tuple (m.map keyD)
def eP (p : Mk × Int) : D := .tuple [mD p.1, .int p.2]
def stD (st : List (Mk × Int)) : D := .list (st.map eP)
def wD (W : Web Mk) : D := .list (W.map stD)
def rowD (r : List Mk) : D := .tuple (r.map mD)
def eR (r : List Mk × Int) : D := .tuple [rowD r.1, .int r.2]
abbrev il (l : List Int) : D := .list (l.map .int)
theorem dKey_k : ∀ k : L2.Key, dKey (keyD k) = some k
  | .inl i => rfl
  | .inr s => rfl
theorem dKeys_m : ∀ m : Mk, dKeys (m.map keyD) = some m
  | [] => rfl
  | k :: m => by simp [dKeys, dKey_k, dKeys_m m]
theorem dKeyT_m (m : Mk) : dKeyT (mD m) = some m := dKeys_m m
theorem keyD_inj {a b : L2.Key} (h : keyD a = keyD b) : a = b := by
  have := dKey_k a
  rw [h, dKey_k] at this
  exact (Option.some.inj this).symm
theorem nob_n {k : Nat} (h : k ≤ 100000) : k < maxLen := by simp only [maxLen]; omega
theorem one_ml {d : D} : [d].length ≤ maxLen := by rw [List.length_singleton]; exact ml 1 (by omega)
theorem two_ml {d e : D} : [d, e].length ≤ maxLen := by rw [List.length_cons, List.length_singleton]; exact ml 2 (by omega)
theorem tri_ml {d e f : D} : [d, e, f].length ≤ maxLen := by rw [List.length_cons, List.length_cons, List.length_singleton]; exact ml 3 (by omega)
theorem nil_ml : ([] : List D).length ≤ maxLen := by rw [List.length_nil]; exact ml 0 (by omega)
theorem fB {gd : D → D → Option D} {fa fb : FE} {env : FEn} {x : FRow} {d e r : D} (h : fa env x = some (d, x)) (h' : fb env x = some (e, x)) (hg : gd d e = some r) : fBin gd fa fb env x = some (r, x) := fBin_eq h h' hg
theorem fK {m : List D → Option D} {fa : FA} {env : FEn} {x : FRow} {ds : List D} {r : D} (h : fa env x = some (ds, x)) (hm : m ds = some r) : fCall m fa env x = some (r, x) := fCall_eq h hm
theorem aC1 {fa : FE} {env : FEn} {x : FRow} {d : D} (h : fa env x = some (d, x)) : aCons fa aNil env x = some ([d], x) := aCons1 h
theorem aC2 {fa fb : FE} {env : FEn} {x : FRow} {d e : D} (h : fa env x = some (d, x)) (h' : fb env x = some (e, x)) : aCons fa (aCons fb aNil) env x = some ([d, e], x) := aCons2 h h'
theorem aC3 {fa fb fc : FE} {env : FEn} {x : FRow} {d e f : D} (h : fa env x = some (d, x)) (h' : fb env x = some (e, x)) (h'' : fc env x = some (f, x)) : aCons fa (aCons fb (aCons fc aNil)) env x = some ([d, e, f], x) := aCons_eq h (aCons2 h' h'')
theorem vV {i : Nat} {env : FEn} {x : FRow} {d : D} (h : env[i]? = some (.va d)) : fVar i env x = some (d, x) := by simp only [fVar, h]
theorem vB {i : Nat} {env : FEn} {x : FRow} {d : D} (h : env[i]? = some (.va d)) : fBor i env x = some (d, x) := by simp only [fBor, h]
theorem vO {i : Nat} {env : FEn} {x : FRow} {d : OwD} (h : env[i]? = some (.ow d)) : fBor i env x = some (d.d, x) := by simp only [fBor, h]
theorem sqL {f : FE} {env : FEn} {x : FRow} {ds : List D} (h : f env x = some (.list ds, x)) : fSeq f env x = some (ds, x) := by simp only [fSeq, h]
theorem sqT {f : FE} {env : FEn} {x : FRow} {ds : List D} (h : f env x = some (.tuple ds, x)) : fSeq f env x = some (ds, x) := by simp only [fSeq, h]
theorem sA {i : Nat} {f : FE} {env : FEn} {x : FRow} {d : D} {ds : List D} (h : f env x = some (d, x)) (he : env[i]? = some (.ow (.lst ds))) (hl : ds.length ≤ 100000) : sApp i f env x = some (.nx (env.set i (.ow (.lst (ds ++ [d])))), x) := by
  have : ds.length < maxLen := by simp only [maxLen]; omega
  simp only [sApp, h, he, if_pos this]
theorem sR {f : FE} {env : FEn} {x : FRow} {d : D} (h : f env x = some (d, x)) : sRet f env x = some (.rt d, x) := by simp only [sRet, h]
theorem sV {i : Nat} {f : FE} {env : FEn} {x : FRow} {d : D} (h : f env x = some (d, x)) : sSet i (xVal f) env x = some (.nx (env.set i (.va d)), x) := sSet_va h
theorem forL_dr {α : Type} {gt : FGt} {b : FS} {x : FRow} (enc : α → D) (l : List α) (E : Nat → FEn → Prop) (h : ∀ i (hi : i < l.length) env, E i env → ∃ e e2, gt (enc l[i]) env = some e ∧ b e x = some (.nx e2, x) ∧ E (i + 1) e2) :
    ∀ (n k : Nat), k + n = l.length → ∀ env, E k env → ∃ e, forL gt b ((l.drop k).map enc) env x = some (.nx e, x) ∧ E l.length e
  | 0, k, hk, env, r => by
    have : k = l.length := by omega
    subst this
    exact ⟨env, by rw [List.drop_length]; rfl, r⟩
  | n + 1, k, hk, env, r => by
    have hi : k < l.length := by omega
    obtain ⟨e, e2, h1, h2, h3⟩ := h k hi env r
    obtain ⟨e3, h4, h5⟩ := forL_dr enc l E h n (k + 1) (by omega) e2 h3
    refine ⟨e3, ?_, h5⟩
    rw [List.drop_eq_getElem_cons hi, List.map_cons, forL, h1]
    simp only [h2]
    exact h4
theorem forL_ix {α : Type} {gt : FGt} {b : FS} {x : FRow} (enc : α → D) (l : List α) (E : Nat → FEn → Prop) (env : FEn) (r : E 0 env) (h : ∀ i (hi : i < l.length) env, E i env → ∃ e e2, gt (enc l[i]) env = some e ∧ b e x = some (.nx e2, x) ∧ E (i + 1) e2) :
    ∃ e, forL gt b (l.map enc) env x = some (.nx e, x) ∧ E l.length e := forL_dr enc l E h l.length 0 (by omega) env r
theorem forL_rg {gt : FGt} {b : FS} {x : FRow} (n : Nat) (E : Nat → FEn → Prop) (env : FEn) (r : E 0 env) (h : ∀ i, i < n → ∀ env, E i env → ∃ e e2, gt (.int (i : Nat)) env = some e ∧ b e x = some (.nx e2, x) ∧ E (i + 1) e2) :
    ∃ e, forL gt b (rgD 0 n) env x = some (.nx e, x) ∧ E n e := by
  rw [rgD_map]
  have := forL_ix (gt := gt) (b := b) (x := x) (fun (i : Nat) => D.int (i : Int)) (List.range n) E env r (fun i hi env r => by simpa using h i (by simpa using hi) env r)
  simpa using this
variable {W : Web Mk} {gs : List Int}
theorem wD_at (h : WOk W) {v : Int} (h0 : 0 ≤ v) (h1 : v < W.length) : gAt (wD W) (.int v) = some (stD (stp W v)) := by
  have e := (stp_mem h h0 h1).1
  simp only [wD, gAt]
  exact atI_int h0 (by rw [List.getElem?_map, e]; rfl)
/-! counts_to -/
def rowC (W : Web Mk) (gs : List Int) (k : Nat) : D := il ((List.range W.length).map fun (i : Nat) => cnt W gs k (i : Int))
theorem map_ints {α : Type} (f : α → Int) (l : List α) : (l.map fun a => D.int (f a)) = (l.map f).map D.int := by simp
theorem rowC_at {k : Nat} (v : Int) (h0 : 0 ≤ v) (h1 : v < W.length) : gAt (rowC W gs k) (.int v) = some (.int (cnt W gs k v)) := by
  have hv : ((List.range W.length).map fun (i : Nat) => cnt W gs k (i : Int))[v.toNat]? = some (cnt W gs k v) := by
    rw [List.getElem?_map, List.getElem?_range (by omega)]
    simp only [Option.map_some]
    congr 2; omega
  simp only [rowC, gAt]
  exact atI_int h0 (by rw [List.getElem?_map, hv]; rfl)
theorem in_bool (v : Int) (gs : List Int) : gInt [.bool (decide (v ∈ gs))] = some (.int (cnt W gs 0 v)) := by
  simp only [gInt, cnt, decide_eq_true_eq]
def ctE (W : Web Mk) (gs : List Int) (many : Int) (L : List D) (p q : FSl) : FEn := [.va (wD W), .va (il gs), .va (.int many), .ow (.lst L), p, q, .no, .no, .no, .no]
def ctL (W : Web Mk) (gs : List Int) (k : Nat) : List D := (List.range (k + 1)).map (rowC W gs)
theorem ctL_s (k : Nat) : ctL W gs (k + 1) = ctL W gs k ++ [rowC W gs (k + 1)] := by
  unfold ctL; rw [List.range_succ, List.map_append]; rfl
theorem ctL_at {k many : Nat} (h : k ≤ many) : L2.atI (ctL W gs many) (k : Int) = some (rowC W gs k) := by
  refine atI_nat ?_
  rw [ctL, List.getElem?_map, List.getElem?_range (by omega)]; rfl
theorem ct_inner (h : WOk W) {k : Nat} {st : List (Mk × Int)} (hst : ∀ p ∈ st, 0 ≤ p.2 ∧ p.2 < (W.length : Int)) (hl : st.length ≤ 1000) {env : FEn} (h7 : env[7]? = some (.va (stD st))) (h5 : env[5]? = some (.va (rowC W gs k))) (he : env.length = 10) (x : FRow) :
    fCall gSum (aCons (fOfX (xLc (fSeq (fVar 7)) (gtTup 2 (gtCons (gtName 8) (gtCons (gtName 9) gtNil))) tYesF (fBin gAt (fBor 5) (fBor 9)) [8, 9])) aNil) env x = some (.int ((st.map fun p => cnt W gs k p.2).sum), x) := by
  have c1 : fOfX (xLc (fSeq (fVar 7)) (gtTup 2 (gtCons (gtName 8) (gtCons (gtName 9) gtNil))) tYesF (fBin gAt (fBor 5) (fBor 9)) [8, 9]) env x = some (il (st.map fun p => cnt W gs k p.2), x) := by
    refine lc_eq (ds := st.map eP) (by simp [fSeq, fVar, h7, stD]) ?_ (by simp only [List.length_map, maxLen]; omega)
    rw [← map_ints]
    refine compL_map eP _ st fun p hp => ⟨_, rfl, rfl, ?_⟩
    have hh := hst p hp
    have e5 : (((wipeE env [8, 9]).set 8 (.va (mD p.1))).set 9 (.va (.int p.2)))[5]? = some (.va (rowC W gs k)) := by
      simp [wipeE, h5]
    have e9 : (((wipeE env [8, 9]).set 8 (.va (mD p.1))).set 9 (.va (.int p.2)))[9]? = some (.va (.int p.2)) := by
      rw [List.getElem?_set_self (by simp [wipeE, he])]
    exact fB (vB e5) (vB e9) (rowC_at p.2 hh.1 hh.2)
  exact fK (aC1 c1) (by simp only [gSum, il, intsD_map])
theorem ct_step (h : WOk W) {k : Nat} {L : List D} (hL : L.length ≤ 1000) (hk : L2.atI L (k : Int) = some (rowC W gs k)) (many : Int) (p q : FSl) (x : FRow) :
    sSeq (sSet 5 (xVal (fBin gAt (fBor 3) (fBor 4))))
    (sApp 3 (fOfX (xLc (fSeq (fVar 0)) (gtName 7) tYesF (fCall gSum (aCons (fOfX (xLc (fSeq (fVar 7)) (gtTup 2 (gtCons (gtName 8) (gtCons (gtName 9) gtNil))) tYesF (fBin gAt (fBor 5) (fBor 9)) [8, 9])) aNil)) [7]))) (ctE W gs many L (.va (.int k)) q) x
    = some (.nx (ctE W gs many (L ++ [rowC W gs (k + 1)]) (.va (.int k)) (.va (rowC W gs k))), x) := by
  have c1 : sSet 5 (xVal (fBin gAt (fBor 3) (fBor 4))) (ctE W gs many L (.va (.int k)) q) x = some (.nx (ctE W gs many L (.va (.int k)) (.va (rowC W gs k))), x) := by
    simp [sSet, xVal, fBin, fBor, ctE, OwD.d, gAt, hk]
  rw [sSeq_nx c1]
  have c2 : fOfX (xLc (fSeq (fVar 0)) (gtName 7) tYesF (fCall gSum (aCons (fOfX (xLc (fSeq (fVar 7)) (gtTup 2 (gtCons (gtName 8) (gtCons (gtName 9) gtNil))) tYesF (fBin gAt (fBor 5) (fBor 9)) [8, 9])) aNil)) [7]) (ctE W gs many L (.va (.int k)) (.va (rowC W gs k))) x = some (rowC W gs (k + 1), x) := by
    have hr : rowC W gs (k + 1) = .list (W.map fun st => .int ((st.map fun p => cnt W gs k p.2).sum)) := by
      unfold rowC il
      congr 1
      apply List.ext_getElem (by simp)
      intro i h1 h2
      have hi : i < W.length := by simpa using h2
      have e : stp W (i : Int) = W[i] := by
        unfold stp
        rw [Int.toNat_natCast, List.getElem?_eq_getElem hi]; rfl
      simp only [List.getElem_map, List.getElem_range, cnt, e]
    rw [hr]
    refine lc_eq (ds := W.map stD) (by simp [fSeq, fVar, ctE, wD]) ?_ (by have := h.n; simp only [List.length_map, maxLen]; omega)
    refine compL_map stD _ W fun st hst => ⟨_, rfl, rfl, ?_⟩
    exact ct_inner h (h.to st hst) (by have := h.k st hst; omega) (by simp [wipeE, ctE]) (by simp [wipeE, ctE]) (by simp [wipeE, ctE]) x
  rw [sA c2 (ds := L) rfl (by omega)]
  simp [ctE]
theorem ct_first (h : WOk W) (many : D) : fOfX (xLc (fRg1 (fCall gLen (aCons (fBor 0) aNil))) (gtName 6) tYesF (fCall gInt (aCons (fBin gInA (fBor 6) (fBor 1)) aNil)) [6]) [.va (wD W), .va (il gs), .va many, .no, .no, .no, .no, .no, .no, .no] row0 = some (rowC W gs 0, row0) := by
  have hn := h.n
  have hr : okRg (W.length : Int) = true := rg_ok (by omega)
  refine lc_eq (ds := (List.range W.length).map fun (i : Nat) => D.int (i : Int)) ?_ ?_ (by simp only [List.length_map, List.length_range]; exact nob_n (by omega))
  · have c0 : fCall gLen (aCons (fBor 0) aNil) [.va (wD W), .va (il gs), .va many, .no, .no, .no, .no, .no, .no, .no] row0 = some (.int (W.length : Nat), row0) := by
      refine fK (aC1 (vB rfl)) ?_
      simp only [gLen, wD, List.length_map]
    simp only [fRg1, c0, hr, if_true, Int.toNat_natCast, rgD_map]
  · rw [← map_ints]
    refine compL_map (fun (i : Nat) => D.int (i : Int)) _ _ fun i hi => ⟨_, rfl, rfl, ?_⟩
    have := in_ints (i : Int) gs
    have hin : fBin gInA (fBor 6) (fBor 1) (List.set (wipeE [.va (wD W), .va (il gs), .va many, .no, .no, .no, .no, .no, .no, .no] [6]) 6 (.va (.int (i : Int)))) row0 = some (.bool (decide ((i : Int) ∈ gs)), row0) := fB (vB rfl) (vB rfl) this
    exact fK (aC1 hin) (in_bool (W := W) (i : Int) gs)
theorem ctL_0 : ctL W gs 0 = [rowC W gs 0] := rfl
theorem counts_to_eq (h : WOk W) {many : Nat} (hm : many ≤ 100) : m_counts_to [wD W, il gs, .int many] = some (.list (ctL W gs many)) := by
  refine mkF_rt (x := row0) rfl ?_
  have c1 : sSet 3 (xLst (aCons (fOfX (xLc (fRg1 (fCall gLen (aCons (fBor 0) aNil))) (gtName 6) tYesF (fCall gInt (aCons (fBin gInA (fBor 6) (fBor 1)) aNil)) [6])) aNil)) [.va (wD W), .va (il gs), .va (.int many), .no, .no, .no, .no, .no, .no, .no] row0 = some (.nx (ctE W gs many (ctL W gs 0) .no .no), row0) := by
    have hx := xLst_ok (aCons1 (ct_first (gs := gs) h (.int many))) one_ml
    rw [sSet, hx, ctL_0]
    rfl
  have hrm : okRg (many : Int) = true := rg_ok (by omega)
  obtain ⟨e3, h4, p, q, rfl⟩ := forL_rg (gt := gtName 4) (b := sSeq (sSet 5 (xVal (fBin gAt (fBor 3) (fBor 4))))
    (sApp 3 (fOfX (xLc (fSeq (fVar 0)) (gtName 7) tYesF (fCall gSum (aCons (fOfX (xLc (fSeq (fVar 7)) (gtTup 2 (gtCons (gtName 8) (gtCons (gtName 9) gtNil))) tYesF (fBin gAt (fBor 5) (fBor 9)) [8, 9])) aNil)) [7])))) (x := row0)
    many (fun k env => ∃ p q, env = ctE W gs many (ctL W gs k) p q) (ctE W gs many (ctL W gs 0) .no .no) ⟨_, _, rfl⟩ (by
      rintro k hk _ ⟨p, q, rfl⟩
      refine ⟨_, _, rfl, ct_step h (by simp only [ctL, List.length_map, List.length_range]; omega) (ctL_at (Nat.le_refl k)) many p q row0, .va (.int k), .va (rowC W gs k), ?_⟩
      rw [ctL_s])
  have c2 : fRg1 (fVar 2) (ctE W gs many (ctL W gs 0) .no .no) row0 = some (rgD 0 many, row0) := by
    simp only [fRg1, vV (show (ctE W gs many (ctL W gs 0) .no .no)[2]? = some (.va (.int many)) from rfl), hrm, if_true, Int.toNat_natCast]
  show b_counts_to [.va (wD W), .va (il gs), .va (.int many), .no, .no, .no, .no, .no, .no, .no] row0 = _
  unfold b_counts_to
  rw [sSeq_nx c1, sSeq_nx (for_eq c2 h4)]
  rfl

/-! rows_to -/
theorem compL2_map {α β : Type} {gt : FGt} {f1 : FA} {gt1 : FGt} {t1 : FT} {fe : FE} {vs1 : List Nat} {env : FEn} {x : FRow} (enc : α → D) (inner : α → List D) (g : α → List D) : ∀ (l : List α), (∀ a ∈ l, ∃ e, gt (enc a) env = some e ∧ f1 e x = some (inner a, x) ∧ compL gt1 t1 fe (wipeE e vs1) (inner a) x = some (g a, x)) → compL2 gt tYesF f1 gt1 t1 fe vs1 env (l.map enc) x = some (l.flatMap g, x)
  | [], _ => rfl
  | a :: l, h => by
    obtain ⟨e, h1, h2, h3⟩ := h a (by simp)
    have ih := compL2_map (β := β) enc inner g l fun b hb => h b (by simp [hb])
    rw [List.map_cons, compL2, h1]
    simp only [tYesF, h2, h3, ih, List.flatMap_cons]
theorem rowD_app (r : List Mk) (m : Mk) (h : r.length ≤ 1000) : gAdd (rowD r) (.tuple [mD m]) = some (rowD (r ++ [m])) := by
  have : (r.map mD).length + 1 ≤ maxLen := by rw [List.length_map]; simp only [maxLen]; omega
  simp only [gAdd, gOr, gI, rowD, gCatT, List.length_singleton, if_pos this, List.map_append, List.map_cons, List.map_nil]
theorem tru_cnt (h : WOk W) {k : Nat} {v : Int} (h0 : 0 ≤ v ∧ v < W.length) {f : FE} {env : FEn} {x : FRow} (e : f env x = some (.int (cnt W gs k v), x)) : fTru f env x = some (cnt W gs k v != 0, x) := by
  simp only [fTru, e, truD]
abbrev rwLc : FX := xLc2 (fSeq (fVar 4)) (gtTup 2 (gtCons (gtName 6) (gtCons (gtName 8) gtNil))) tYesF (fSeq (fBin gAt (fBor 0) (fBor 8))) (gtTup 2 (gtCons (gtName 9) (gtCons (gtName 10) gtNil))) (fTru (fBin gAt (fBin gAt (fBor 3) (fBor 5)) (fBor 10))) (fTup (aCons (fBin gAdd (fBor 6) (fTup (aCons (fVar 9) aNil))) (aCons (fVar 10) aNil))) [6, 8, 9, 10] [9, 10]
def rwE (W : Web Mk) (gs : List Int) (many : Nat) (F : List D) (p : FSl) : FEn := [.va (wD W), .va (il gs), .va (.int many), .va (.list (ctL W gs many)), .va (.list F), p, .no, .no, .no, .no, .no]
theorem rw_step (h : WOk W) {many k : Nat} (hk : k ≤ many) (F : List (List Mk × Int)) (hF : ∀ r ∈ F, (0 ≤ r.2 ∧ r.2 < (W.length : Int)) ∧ r.1.length ≤ 1000) (hl : F.length ≤ 10000) (x : FRow) :
    fOfX rwLc (rwE W gs many (F.map eR) (.va (.int k))) x = some (.list ((F.flatMap fun r => (nxt W r).filter fun q => cnt W gs k q.2 != 0).map eR), x) := by
  have hc : compL2 (gtTup 2 (gtCons (gtName 6) (gtCons (gtName 8) gtNil))) tYesF (fSeq (fBin gAt (fBor 0) (fBor 8))) (gtTup 2 (gtCons (gtName 9) (gtCons (gtName 10) gtNil))) (fTru (fBin gAt (fBin gAt (fBor 3) (fBor 5)) (fBor 10))) (fTup (aCons (fBin gAdd (fBor 6) (fTup (aCons (fVar 9) aNil))) (aCons (fVar 10) aNil))) [9, 10] (wipeE (rwE W gs many (F.map eR) (.va (.int k))) [6, 8, 9, 10]) (F.map eR) x
      = some (F.flatMap fun r => ((nxt W r).filter fun q => cnt W gs k q.2 != 0).map eR, x) := by
    refine compL2_map (β := Unit) eR (fun r => (stp W r.2).map eP) _ F fun r hr => ⟨_, rfl, ?_, ?_⟩
    · have hh := hF r hr
      exact sqL (fB (vB rfl) (vB rfl) (wD_at h hh.1.1 hh.1.2))
    · have hh := hF r hr
      have := compL_gen (gt := gtTup 2 (gtCons (gtName 9) (gtCons (gtName 10) gtNil))) (t := fTru (fBin gAt (fBin gAt (fBor 3) (fBor 5)) (fBor 10))) (fe := fTup (aCons (fBin gAdd (fBor 6) (fTup (aCons (fVar 9) aNil))) (aCons (fVar 10) aNil))) (env := [.va (wD W), .va (il gs), .va (.int many), .va (.list (ctL W gs many)), .va (.list (F.map eR)), .va (.int k), .va (rowD r.1), .no, .va (.int r.2), .no, .no]) (x := x) eP (fun p => cnt W gs k p.2 != 0) (fun p => eR (r.1 ++ [p.1], p.2)) (stp W r.2) (by
          intro p hp
          have hp2 := stp_to h p hp
          refine ⟨[.va (wD W), .va (il gs), .va (.int many), .va (.list (ctL W gs many)), .va (.list (F.map eR)), .va (.int k), .va (rowD r.1), .no, .va (.int r.2), .va (mD p.1), .va (.int p.2)], rfl, ?_, fun _ => ?_⟩
          · exact tru_cnt h hp2 (fB (fB (vB rfl) (vB rfl) (ctL_at hk)) (vB rfl) (rowC_at p.2 hp2.1 hp2.2))
          · exact fTup_ok (aC2 (fB (vB rfl) (fTup_ok (aC1 (vV rfl)) one_ml) (rowD_app r.1 p.1 hh.2)) (vV rfl)) two_ml)
      show compL _ _ _ [.va (wD W), .va (il gs), .va (.int many), .va (.list (ctL W gs many)), .va (.list (F.map eR)), .va (.int k), .va (rowD r.1), .no, .va (.int r.2), .no, .no] _ _ = _
      rw [this, nxt, List.filter_map, List.map_map]
      rfl
  have hlen : (F.flatMap fun r => ((nxt W r).filter fun q => cnt W gs k q.2 != 0).map eR).length < maxLen := by
    have := flat_le (f := fun r => ((nxt W r).filter fun q => cnt W gs k q.2 != 0).map eR) (b := 2) F fun r _ => by
      rw [List.length_map]
      refine Nat.le_trans (List.length_filter_le _ _) ?_
      rw [nxt, List.length_map]; exact stp_len h r.2
    exact nob_n (by omega)
  have hs : fSeq (fVar 4) (rwE W gs many (F.map eR) (.va (.int k))) x = some (F.map eR, x) := sqL (vV rfl)
  simp only [fOfX, rwLc, xLc2, hs, hc, if_pos hlen, OwD.d, List.map_flatMap]
theorem pow12 {i : Nat} (h : i ≤ 12) : 2 ^ i ≤ 4096 := by
  have := Nat.pow_le_pow_right (n := 2) (by omega) h
  simpa using this
theorem rows_to_eq (h : WOk W) {many : Nat} (hm : many ≤ 12) : m_rows_to [wD W, il gs, .int many] = some (.list (((lev W many).filter fun r => decide (r.2 ∈ gs)).map fun r => rowD r.1)) := by
  refine mkF_rt (x := row0) rfl ?_
  have c1 : sSet 3 (xVal (fCall m_counts_to (aCons (fVar 0) (aCons (fVar 1) (aCons (fVar 2) aNil))))) [.va (wD W), .va (il gs), .va (.int many), .no, .no, .no, .no, .no, .no, .no, .no] row0 = some (.nx [.va (wD W), .va (il gs), .va (.int many), .va (.list (ctL W gs many)), .no, .no, .no, .no, .no, .no, .no], row0) :=
    sV (fK (aC3 (vV rfl) (vV rfl) (vV rfl)) (counts_to_eq h (by omega)))
  have hz := z_in h
  have c2 : sSet 4 (xVal (fIf (fTru (fBin gAt (fBin gAt (fBor 3) (fBor 2)) (fC (.int 0)))) (fLst (aCons (fTup (aCons (fTup aNil) (aCons (fC (.int 0)) aNil))) aNil)) (fLst aNil))) [.va (wD W), .va (il gs), .va (.int many), .va (.list (ctL W gs many)), .no, .no, .no, .no, .no, .no, .no] row0 = some (.nx (rwE W gs many ((kp W gs many 0).map eR) .no), row0) := by
    have t := tru_cnt (W := W) (gs := gs) (k := many) h hz (f := fBin gAt (fBin gAt (fBor 3) (fBor 2)) (fC (.int 0))) (env := [.va (wD W), .va (il gs), .va (.int many), .va (.list (ctL W gs many)), .no, .no, .no, .no, .no, .no, .no]) (x := row0) (fB (fB (vB rfl) (vB rfl) (ctL_at (Nat.le_refl many))) rfl (rowC_at 0 hz.1 hz.2))
    refine sV ?_
    rw [kp_zero]
    simp only [fIf, t]
    cases cnt W gs many 0 != 0 with
    | false => exact fLst_ok rfl nil_ml
    | true => exact fLst_ok (aC1 (fTup_ok (aC2 (fTup_ok rfl nil_ml) rfl) two_ml)) one_ml
  have hrm : okRg (many : Int) = true := rg_ok (by omega)
  have c3 : fRev1 (fVar 2) (rwE W gs many ((kp W gs many 0).map eR) .no) row0 = some ((List.range many).map fun (i : Nat) => D.int (((many - 1 - i : Nat) : Int)), row0) := by
    have e2 : fVar 2 (rwE W gs many ((kp W gs many 0).map eR) .no) row0 = some (.int many, row0) := vV rfl
    have e3 : ((List.range many).map fun (i : Nat) => D.int ((many : Int) - 1 - (i : Int))) = (List.range many).map fun (i : Nat) => D.int (((many - 1 - i : Nat) : Int)) := List.map_congr_left fun i hi => by
      have : i < many := by simpa using hi
      rw [show (many : Int) - 1 - (i : Int) = ((many - 1 - i : Nat) : Int) by omega]
    simp only [fRev1, e2, hrm, if_true, Int.toNat_natCast, rvD, e3]
  have hkp : ∀ k i, ∀ r ∈ kp W gs k i, (0 ≤ r.2 ∧ r.2 < (W.length : Int)) ∧ r.1.length = i := fun k i r hr => lev_in h i r (List.mem_filter.mp hr).1
  have hkl : ∀ k i, i ≤ 12 → (kp W gs k i).length ≤ 4096 := fun k i hi => by
    refine Nat.le_trans (List.length_filter_le _ _) (Nat.le_trans (lev_len h i) (pow12 hi))
  obtain ⟨e3, h4, p, rfl⟩ := forL_ix (gt := gtName 5) (b := sSet 4 ((fun f => xVal (fOfX f)) rwLc)) (x := row0) (fun (i : Nat) => D.int (((many - 1 - i : Nat) : Int))) (List.range many) (fun i env => ∃ p, env = rwE W gs many ((kp W gs (many - i) i).map eR) p) (rwE W gs many ((kp W gs many 0).map eR) .no) ⟨_, rfl⟩ (by
    rintro i hi _ ⟨p, rfl⟩
    rw [List.length_range] at hi
    rw [List.getElem_range]
    refine ⟨rwE W gs many ((kp W gs (many - i) i).map eR) (.va (.int ((many - 1 - i : Nat) : Int))), _, rfl, sV (rw_step h (by omega) _ (fun r hr => ⟨(hkp _ _ r hr).1, by have := (hkp _ _ r hr).2; omega⟩) (by have := hkl (many - i) i (by omega); omega) row0), .va (.int ((many - 1 - i : Nat) : Int)), ?_⟩
    have e1 : many - i = (many - 1 - i) + 1 := by omega
    have e2 : many - (i + 1) = many - 1 - i := by omega
    rw [e1, kp_step, e2]
    rfl)
  rw [List.length_range, Nat.sub_self, kp_end] at h4
  have c5 : fOfX (xLc (fSeq (fVar 4)) (gtTup 2 (gtCons (gtName 6) (gtCons (gtName 7) gtNil))) tYesF (fVar 6) [6, 7]) (rwE W gs many (((lev W many).filter fun r => decide (r.2 ∈ gs)).map eR) p) row0 = some (.list (((lev W many).filter fun r => decide (r.2 ∈ gs)).map fun r => rowD r.1), row0) := by
    refine lc_eq (ds := ((lev W many).filter fun r => decide (r.2 ∈ gs)).map eR) (sqL (vV rfl)) (compL_map eR _ _ fun r hr => ⟨_, rfl, rfl, vV rfl⟩) ?_
    rw [List.length_map, ← kp_end]
    exact nob_n (by have := hkl 0 many hm; omega)
  show b_rows_to [.va (wD W), .va (il gs), .va (.int many), .no, .no, .no, .no, .no, .no, .no, .no] row0 = _
  unfold b_rows_to
  rw [sSeq_nx c1, sSeq_nx c2, sSeq_nx (for_eq c3 h4)]
  exact sR c5

/-! place_behind -/
def go (W : Web Mk) : Int → List Mk → Option Int
  | v, [] => some v
  | v, m :: r => match (stp W v).find? (fun p => decide (p.1 = m)) with
    | some p => go W p.2 r
    | none => none
def dcD (st : List (Mk × Int)) : List (D × D) := st.map fun p => (mD p.1, .int p.2)
theorem pairs_st : ∀ st : List (Mk × Int), pairsD (st.map eP) = some (st.map fun p => (p.1, mD p.1, .int p.2))
  | [] => rfl
  | p :: st => by
    rw [List.map_cons, eP, pairsD, dKeyT_m, pairs_st st]; rfl
theorem put_new {acc st : List (Mk × Int)} {p : Mk × Int} (h : ∀ q ∈ acc, q.1 ≠ p.1) : putD dKeyT (dcD acc) (mD p.1) p.1 (.int p.2) = dcD (acc ++ [p]) := by
  unfold putD
  have : ((dcD acc).any fun q => decide (dKeyT q.1 = some p.1)) = false := by
    rw [List.any_eq_false]
    intro q hq
    obtain ⟨a, ha, rfl⟩ := List.mem_map.mp hq
    simp only [dKeyT_m, decide_eq_true_eq, Option.some.injEq]
    exact h a ha
  rw [this]
  simp [dcD]
theorem fold_st : ∀ (st acc : List (Mk × Int)), ((acc ++ st).map (·.1)).Nodup → (st.map fun p => ((p.1, mD p.1, .int p.2) : List L2.Key × D × D)).foldl (fun acc p => putD dKeyT acc p.2.1 p.1 p.2.2) (dcD acc) = dcD (acc ++ st)
  | [], acc, _ => by simp
  | p :: st, acc, h => by
    rw [List.map_cons, List.foldl_cons, put_new (st := st)]
    · rw [fold_st st (acc ++ [p]) (by simpa using h)]; simp
    · intro q hq e
      rw [List.map_append, List.nodup_append] at h
      exact h.2.2 q.1 (List.mem_map.mpr ⟨q, hq, rfl⟩) p.1 (by simp) e
theorem dict_st {st : List (Mk × Int)} (h : (st.map (·.1)).Nodup) : gDictOf [stD st] = some (.dictT (dcD st)) := by
  have := fold_st st [] (by simpa using h)
  simp only [gDictOf, stD, pairs_st]
  rw [show ([] : List (D × D)) = dcD [] from rfl, this]; rfl
theorem val_st (st : List (Mk × Int)) (m : Mk) : valD dKeyT (dcD st) m = (st.find? fun p => decide (p.1 = m)).map fun p => .int p.2 := by
  induction st with
  | nil => rfl
  | cons p st ih =>
    unfold valD at ih ⊢
    rw [show dcD (p :: st) = (mD p.1, .int p.2) :: dcD st from rfl, List.find?_cons, List.find?_cons]
    simp only [dKeyT_m, Option.some.injEq]
    by_cases c : p.1 = m
    · simp [c]
    · simp [c, ih]
def plE (W : Web Mk) (r : D) (v : Int) (p q : FSl) : FEn := [.va (wD W), .va r, .va (.int v), p, q]
abbrev plB : FS := sSeq (sSet 4 (xVal (fCall gDictOf (aCons (fBin gAt (fBor 0) (fBor 2)) aNil))))
    (sSeq (sIf (fTst (fBin gNotInA (fBor 3) (fBor 4))) (sRet (fC .none)) sNil)
    (sSet 2 (xVal (fBin gAt (fBor 4) (fBor 3)))))
theorem pl_step (h : WOk W) (hn : ∀ st ∈ W, (st.map (·.1)).Nodup) {v : Int} (hv : 0 ≤ v ∧ v < W.length) (r : D) (m : Mk) (q : FSl) (x : FRow) :
    plB (plE W r v (.va (mD m)) q) x = match (stp W v).find? (fun p => decide (p.1 = m)) with
      | some p => some (.nx (plE W r p.2 (.va (mD m)) (.va (.dictT (dcD (stp W v))))), x)
      | none => some (.rt .none, x) := by
  have c1 : sSet 4 (xVal (fCall gDictOf (aCons (fBin gAt (fBor 0) (fBor 2)) aNil))) (plE W r v (.va (mD m)) q) x = some (.nx (plE W r v (.va (mD m)) (.va (.dictT (dcD (stp W v))))), x) :=
    sV (fK (aC1 (fB (vB rfl) (vB rfl) (wD_at h hv.1 hv.2))) (dict_st (hn _ (stp_mem h hv.1 hv.2).2)))
  have hval := val_st (stp W v) m
  have hg : gDGet (.dictT (dcD (stp W v))) (mD m) = some ((List.find? (fun p => decide (p.1 = m)) (stp W v)).map fun p => D.int p.2) := by
    simp only [gDGet, dKeyT_m, hval]
  have c2 : fTst (fBin gNotInA (fBor 3) (fBor 4)) (plE W r v (.va (mD m)) (.va (.dictT (dcD (stp W v))))) x = some (!(List.find? (fun p => decide (p.1 = m)) (stp W v)).isSome, x) := by
    have : fBin gNotInA (fBor 3) (fBor 4) (plE W r v (.va (mD m)) (.va (.dictT (dcD (stp W v))))) x = some (.bool (!(List.find? (fun p => decide (p.1 = m)) (stp W v)).isSome), x) := by
      refine fB (vB rfl) (vB rfl) ?_
      simp only [gNotInA, gDNotIn, hg, Option.isSome_map]
    simp only [fTst, this]
  delta plB
  rw [sSeq_nx c1]
  cases hf : List.find? (fun p => decide (p.1 = m)) (stp W v) with
  | none =>
    rw [hf] at c2
    have c3 : sIf (fTst (fBin gNotInA (fBor 3) (fBor 4))) (sRet (fC .none)) sNil (plE W r v (.va (mD m)) (.va (.dictT (dcD (stp W v))))) x = some (.rt .none, x) := by
      simp only [sIf, c2]; rfl
    simp only [sSeq, c3]
  | some p =>
    rw [hf] at c2 hg
    have c3 : sIf (fTst (fBin gNotInA (fBor 3) (fBor 4))) (sRet (fC .none)) sNil (plE W r v (.va (mD m)) (.va (.dictT (dcD (stp W v))))) x = some (.nx (plE W r v (.va (mD m)) (.va (.dictT (dcD (stp W v))))), x) := by
      simp only [sIf, c2]; rfl
    rw [sSeq_nx c3]
    exact sV (fB (vB rfl) (vB rfl) (by simp only [gAt, gDAt, hg, Option.map_some]))
theorem pl_loop (h : WOk W) (hn : ∀ st ∈ W, (st.map (·.1)).Nodup) (rr : D) (x : FRow) : ∀ (r : List Mk) (v : Int), (0 ≤ v ∧ v < (W.length : Int)) → ∀ p q : FSl, (∃ u p' q', go W v r = some u ∧ forL (gtName 3) plB (r.map mD) (plE W rr v p q) x = some (.nx (plE W rr u p' q'), x)) ∨ (go W v r = none ∧ forL (gtName 3) plB (r.map mD) (plE W rr v p q) x = some (.rt .none, x))
  | [], v, _, p, q => Or.inl ⟨v, p, q, rfl, rfl⟩
  | m :: r, v, hv, p, q => by
    have st := pl_step h hn hv rr m q x
    rw [List.map_cons, forL, show gtName 3 (mD m) (plE W rr v p q) = some (plE W rr v (.va (mD m)) q) from rfl]
    simp only [go]
    cases hf : List.find? (fun p => decide (p.1 = m)) (stp W v) with
    | none =>
      rw [hf] at st
      right
      simp only [st, and_self]
    | some s =>
      rw [hf] at st
      simp only [st]
      exact pl_loop h hn rr x r s.2 (stp_to h s (List.mem_of_find?_eq_some hf)) _ _
def optD : Option Int → D
  | some v => .int v
  | none => .none
end Lw

namespace Lw
open PySem RT Wb
variable {W : Web Mk}
/-! coming -/
def cwE (W : Web Mk) (v : Int) (O : List Int) (at' : Int) (p q r : FSl) : FEn := [.va (wD W), .va (.int v), .ow (.lst (O.map .int)), .ow (.dk (dS O)), .va (.int at'), p, q, r]
theorem cw_body {v t : Int} {O : List Int} (hO : O.length ≤ 100) (k : Int) (p q : FSl) :
    sIf (fTst (fBin gNotInA (fBor 7) (fBor 3))) (sSeq (sDPut 3 (fVar 7) (fC (.bool true))) (sApp 2 (fVar 7))) sNil (cwE W v O k p q (.va (.int t))) row0 = some (.nx (cwE W v (Bf.adds O [t]) k p q (.va (.int t))), row0) := by
  have hl : (dS O).length < maxLen := by simp only [dS, List.length_map, maxLen]; omega
  have hl2 : (O.map D.int).length < maxLen := by simp only [List.length_map, maxLen]; omega
  have hp := dS_put t O
  by_cases c : t ∈ O
  · have e : Bf.adds O [t] = O := by rw [Bf.adds_cons, Bf.adds_nil, if_pos c]
    rw [e]
    simp [sIf, fTst, fBin, fBor, cwE, OwD.d, dS_notin, c, sNil]
  · have e : Bf.adds O [t] = O ++ [t] := by rw [Bf.adds_cons, Bf.adds_nil, if_neg c]
    rw [e] at hp ⊢
    have c1 : fTst (fBin gNotInA (fBor 7) (fBor 3)) (cwE W v O k p q (.va (.int t))) row0 = some (true, row0) := by
      simp [fTst, fBin, fBor, cwE, OwD.d, dS_notin, c]
    have c2 : sDPut 3 (fVar 7) (fC (.bool true)) (cwE W v O k p q (.va (.int t))) row0 = some (.nx [.va (wD W), .va (.int v), .ow (.lst (O.map .int)), .ow (.dk (dS (O ++ [t]))), .va (.int k), p, q, .va (.int t)], row0) := by
      simp [sDPut, fVar, fC, cwE, dKey, hl, hp]
    have c3 : sApp 2 (fVar 7) [.va (wD W), .va (.int v), .ow (.lst (O.map .int)), .ow (.dk (dS (O ++ [t]))), .va (.int k), p, q, .va (.int t)] row0 = some (.nx (cwE W v (O ++ [t]) k p q (.va (.int t))), row0) := by
      simp only [sApp, fVar, List.getElem?_cons_succ, List.getElem?_cons_zero, if_pos hl2]
      simp [cwE]
    simp only [sIf, c1, sSeq, c2, c3]
theorem cw_inner {v : Int} (bs : List (Mk × Int)) (O : List Int) (hO : O.length + bs.length ≤ 100) (k : Int) (p q r : FSl) :
    ∃ q' r', forL (gtTup 2 (gtCons (gtName 6) (gtCons (gtName 7) gtNil))) (sIf (fTst (fBin gNotInA (fBor 7) (fBor 3))) (sSeq (sDPut 3 (fVar 7) (fC (.bool true))) (sApp 2 (fVar 7))) sNil) (bs.map eP) (cwE W v O k p q r) row0 = some (.nx (cwE W v (Bf.adds O (bs.map (·.2))) k p q' r'), row0) := by
  induction bs generalizing O q r with
  | nil => exact ⟨q, r, rfl⟩
  | cons b bs ih =>
    simp only [List.length_cons] at hO
    have h1 := adds1_len O b.2
    obtain ⟨q', r', e⟩ := ih (Bf.adds O [b.2]) (by omega) (.va (mD b.1)) (.va (.int b.2))
    refine ⟨q', r', ?_⟩
    have c1 : gtTup 2 (gtCons (gtName 6) (gtCons (gtName 7) gtNil)) (eP b) (cwE W v O k p q r) = some (cwE W v O k p (.va (mD b.1)) (.va (.int b.2))) := rfl
    have c2 := cw_body (W := W) (v := v) (t := b.2) (O := O) (by omega) k p (.va (mD b.1))
    rw [List.map_cons, forL, c1]
    simp only [c2]
    exact e
theorem coming_W (h : WOk W) {v : Int} (hv : 0 ≤ v ∧ v < W.length) : m_coming [wD W, .int v] = some (il (Bf.ord (G W) v)) := by
  have Wb := web_ok h
  have hm := h.n
  obtain ⟨stop, hs1, hs2, hs3⟩ := first_ex (P := fun j => (Bf.bf (G W) v j).length ≤ j) 8 (by have := Bf.bf_len hv Wb.to 8; omega)
  have hO : ∀ j, (Bf.bf (G W) v j).length ≤ 8 := fun j => by have := Bf.bf_len hv Wb.to j; omega
  obtain ⟨e2, h1, p, q, r, h2⟩ := whL_inv (t := fTst (fBin gLtX (fBor 4) (fCall gLen (aCons (fBor 2) aNil)))) (b := sSeq (sSet 5 (xVal (fBin gAt (fBor 2) (fBor 4))))
    (sSeq (sFor (fSeq (fBin gAt (fBor 0) (fBor 5))) (gtTup 2 (gtCons (gtName 6) (gtCons (gtName 7) gtNil))) (sIf (fTst (fBin gNotInA (fBor 7) (fBor 3))) (sSeq (sDPut 3 (fVar 7) (fC (.bool true)))
    (sApp 2 (fVar 7))) sNil))
    (sAug 4 (fC (.int 1))))) (x := row0) (fun j env => ∃ p q r, env = cwE W v (Bf.bf (G W) v j) j p q r) stop (by
      rintro j _ ⟨p, q, r, rfl⟩ hj
      have hlt : j < (Bf.bf (G W) v j).length := by have := hs3 j hj; omega
      have hz : (Bf.bf (G W) v j)[j]? = some (Bf.bf (G W) v j)[j] := List.getElem?_eq_getElem hlt
      have hu := Bf.bf_in (fun x => 0 ≤ x ∧ x < (W.length : Int)) hv Wb.to j _ (List.getElem_mem hlt)
      generalize hue : (Bf.bf (G W) v j)[j] = u at hz hu
      have hstep : Bf.bf (G W) v (j + 1) = Bf.adds (Bf.bf (G W) v j) (G W u) := by rw [Bf.bf, hz]
      constructor
      · simp [fTst, fBin, fBor, fCall, aCons, aNil, cwE, OwD.d, gLen, gLtX, gLt, gOr, gI, hlt]
      · have ha : L2.atI ((Bf.bf (G W) v j).map D.int) (j : Int) = some (.int u) := atI_nat (by rw [List.getElem?_map, hz]; rfl)
        have c1 : sSet 5 (xVal (fBin gAt (fBor 2) (fBor 4))) (cwE W v (Bf.bf (G W) v j) j p q r) row0 = some (.nx (cwE W v (Bf.bf (G W) v j) j (.va (.int u)) q r), row0) := sV (fB (vO rfl) (vB rfl) ha)
        have hb2 := stp_len h u
        obtain ⟨q', r', e⟩ := cw_inner (W := W) (v := v) (stp W u) (Bf.bf (G W) v j) (by have := hO j; omega) j (.va (.int u)) q r
        have c2 : fSeq (fBin gAt (fBor 0) (fBor 5)) (cwE W v (Bf.bf (G W) v j) j (.va (.int u)) q r) row0 = some ((stp W u).map eP, row0) := sqL (fB (vB rfl) (vB rfl) (wD_at h hu.1 hu.2))
        refine ⟨cwE W v (Bf.bf (G W) v (j + 1)) (j + 1 : Nat) (.va (.int u)) q' r', ?_, _, _, _, rfl⟩
        simp only [sSeq, c1, sFor, c2, e]
        rw [hstep]
        simp [sAug, fC, cwE, G]) (by
      rintro _ ⟨p, q, r, rfl⟩
      have : ¬ stop < (Bf.bf (G W) v stop).length := by omega
      simp [fTst, fBin, fBor, fCall, aCons, aNil, cwE, OwD.d, gLen, gLtX, gLt, gOr, gI, this]) 1000 0 (cwE W v [v] 0 .no .no .no) ⟨_, _, _, rfl⟩ (by omega) (by omega)
  subst h2
  rw [Bf.ord_end Wb hv hs2] at h1
  refine mkF_rt (x := row0) rfl ?_
  have c1 : sSet 2 (xLst (aCons (fVar 1) aNil)) [.va (wD W), .va (.int v), .no, .no, .no, .no, .no, .no] row0 = some (.nx [.va (wD W), .va (.int v), .ow (.lst [.int v]), .no, .no, .no, .no, .no], row0) := by
    simp [sSet, xLst, aCons, aNil, fVar, maxLen]
  have c2 : sSet 3 (xDict1 (fVar 1) (fC (.bool true))) [.va (wD W), .va (.int v), .ow (.lst [.int v]), .no, .no, .no, .no, .no] row0 = some (.nx [.va (wD W), .va (.int v), .ow (.lst [.int v]), .ow (.dk (dS [v])), .no, .no, .no, .no], row0) := by
    simp [sSet, xDict1, fVar, fC, dKey, dS]
  have c3 : sSet 4 (xVal (fC (.int 0))) [.va (wD W), .va (.int v), .ow (.lst [.int v]), .ow (.dk (dS [v])), .no, .no, .no, .no] row0 = some (.nx (cwE W v [v] 0 .no .no .no), row0) := by
    simp [sSet, xVal, fC, cwE]
  show b_coming [.va (wD W), .va (.int v), .no, .no, .no, .no, .no, .no] row0 = _
  unfold b_coming
  rw [sSeq_nx c1, sSeq_nx c2, sSeq_nx c3, sSeq_nx h1]
  simp [sFrz, eFrz, sRet, fVar, cwE, OwD.d]
end Lw

namespace Lw
open PySem RT Wb
/-! order of marks, rows; sorted lists stay -/
def mlt (a b : Mk) : Prop := PySem.W.dataLt (mD a).py (mD b).py = true ∧ PyData.eqv (mD a).py (mD b).py = false
def shp (m : Mk) : List Bool := m.map Sum.isLeft
theorem key_alike {a b : L2.Key} (h : a.isLeft = b.isLeft) : PySem.W.alike (keyD a).py (keyD b).py = true := by
  cases a <;> cases b <;> simp_all [keyD, D.py, PySem.W.alike]
theorem keys_alike : ∀ {a b : Mk}, shp a = shp b → PySem.W.alikeAll (pyAll (a.map keyD)) (pyAll (b.map keyD)) = true
  | [], [], _ => by simp [pyAll, PySem.W.alikeAll]
  | x :: a, y :: b, h => by
    simp only [shp, List.map_cons, List.cons.injEq] at h
    simp only [List.map_cons, pyAll, PySem.W.alikeAll, key_alike h.1, keys_alike h.2, Bool.and_self]
  | [], _ :: _, h => by simp [shp] at h
  | _ :: _, [], h => by simp [shp] at h
theorem m_alike {a b : Mk} (h : shp a = shp b) : PySem.W.alike (mD a).py (mD b).py = true := by
  simp only [mD, D.py, PySem.W.alike, keys_alike h]
def kOk : L2.Key → Prop
  | .inl _ => True
  | .inr s => PyData.strOk s = true
def MOk (S : List Bool) (m : Mk) : Prop := shp m = S ∧ ∀ k ∈ m, kOk k
def Shp (S : List Bool) (r : List Mk) : Prop := ∀ m ∈ r, MOk S m
theorem rows_alike {S : List Bool} : ∀ {r q : List Mk}, Shp S r → Shp S q → PySem.W.alikeAll (pyAll (r.map mD)) (pyAll (q.map mD)) = true
  | [], _, _, _ => by simp [pyAll, PySem.W.alikeAll]
  | _ :: _, [], _, _ => by simp [pyAll, PySem.W.alikeAll]
  | x :: r, y :: q, h, h' => by
    have e := m_alike ((h x (by simp)).1.trans (h' y (by simp)).1.symm)
    simp only [List.map_cons, pyAll, PySem.W.alikeAll, e, Bool.true_and]
    exact rows_alike (fun m hm => h m (by simp [hm])) (fun m hm => h' m (by simp [hm]))
theorem row_alike {S : List Bool} {r q : List Mk} (h : Shp S r) (h' : Shp S q) : PySem.W.alike (rowD r).py (rowD q).py = true := by
  simp only [rowD, D.py, PySem.W.alike, rows_alike h h']
theorem rows_lt {S : List Bool} : ∀ {r q : List Mk}, Shp S r → Shp S q → rlt mlt r q → PyProof.Rows.lexLt PyProof.Rows.itemOrd (PySem.W.keyToksAll (pyAll (r.map mD))) (PySem.W.keyToksAll (pyAll (q.map mD))) = true ∧ PyData.eqvAll (pyAll (r.map mD)) (pyAll (q.map mD)) = false
  | x :: r, y :: q, h, h', c => by
    have ea := m_alike ((h x (by simp)).1.trans (h' y (by simp)).1.symm)
    simp only [List.map_cons, pyAll]
    rcases c with c | ⟨rfl, c⟩
    · rw [PySem.W.dataLt_all_no ea c.2, PyData.eqvAll, c.2]
      exact ⟨c.1, rfl⟩
    · have er := PySem.W.eqv_refl_alike _ ea
      have ih := rows_lt (fun m hm => h m (by simp [hm])) (fun m hm => h' m (by simp [hm])) c
      rw [PySem.W.dataLt_all_yes ea er, PyData.eqvAll, er]
      exact ⟨ih.1, ih.2⟩
  | [], _, _, _, c => by cases c
  | _ :: _, [], _, _, c => by cases c
theorem row_lt {S : List Bool} {r q : List Mk} (h : Shp S r) (h' : Shp S q) (c : rlt mlt r q) : PySem.W.dataLt (rowD r).py (rowD q).py = true ∧ PyData.eqv (rowD r).py (rowD q).py = false := by
  have := rows_lt h h' c
  simpa only [PySem.W.dataLt, rowD, D.py, PySem.W.keyToks, PyData.eqv] using this
theorem lt_le {a b : D} (h : PySem.W.dataLt a.py b.py = true) : leD a b = true := by
  unfold leD
  cases c : PySem.W.dataLt b.py a.py with
  | false => rfl
  | true =>
    have := PyProof.Rows.lex_trans _ _ _ h c
    rw [PyProof.Rows.lex_irrefl] at this; cases this
theorem eR_alike {S : List Bool} {r q : List Mk × Int} (h : Shp S r.1) (h' : Shp S q.1) : PySem.W.alike (eR r).py (eR q).py = true := by
  have := row_alike h h'
  simp only [eR, D.py, pyAll, PySem.W.alike, PySem.W.alikeAll, this, Bool.and_true]
theorem eR_lt {S : List Bool} {r q : List Mk × Int} (h : Shp S r.1) (h' : Shp S q.1) (c : rlt mlt r.1 q.1) : PySem.W.dataLt (eR r).py (eR q).py = true := by
  have := row_lt h h' c
  have ea := row_alike h h'
  unfold PySem.W.dataLt
  simp only [eR, D.py, pyAll, PySem.W.keyToks]
  rw [PySem.W.dataLt_all_no ea this.2]
  exact this.1
theorem sort_id {X : List D} (hs : shapedD (.list X) = true) (ht : sortableB X = true) (ha : alikeB X = true) (hl : X.length ≤ maxLen) (hp : X.Pairwise (fun a b => leD a b = true)) : gSortD [.list X] = some (.list X) := by
  simp only [gSortD, hs, ht, ha, Bool.and_self, Bool.true_and, decide_eq_true_eq, if_pos hl]
  rw [List.mergeSort_of_pairwise hp]
theorem sortX_D {X : List D} (h1 : gSort [.list X] = none) (h2 : gSortD [.list X] = some (.list X)) : gSortX [.list X] = some (.list X) := by
  simp only [gSortX, cOr, h1]
  unfold gSort1
  simp only
  split
  · rename_i h
    split at h
    · exact h.symm
    · cases h
  · exact h2
theorem sort_none {x : D} {xs : List D} {X : List D} (hx : intsD (x :: xs) = none) : gSort [.list (.tuple (x :: xs) :: X)] = none := by
  simp only [gSort, cOr, gSortI, intsD, gSortT, tupsD, hx]
theorem pt_key {k : L2.Key} (h : kOk k) : Pt 0 (keyD k) := by
  cases k with
  | inl i => exact Or.inr (Or.inl ⟨i, rfl⟩)
  | inr s => exact Or.inr (Or.inr (Or.inl ⟨s, rfl, h⟩))
theorem pt_m {S : List Bool} {m : Mk} (h : MOk S m) (hS : S.length ≤ 1000) : Pt 1 (mD m) := Or.inr ⟨m.map keyD, Or.inl rfl, by
  have := congrArg List.length h.1
  simp only [shp, List.length_map] at this ⊢; omega, by
  intro e he
  obtain ⟨k, hk, rfl⟩ := List.mem_map.mp he
  exact pt_key (h.2 k hk)⟩
theorem pt_row {S : List Bool} (hS : S.length ≤ 1000) {r : List Mk} (h : r.length ≤ 1000) (hm : Shp S r) : Pt 2 (rowD r) := Or.inr ⟨r.map mD, Or.inl rfl, by simpa using h, by
  intro e he
  obtain ⟨m, hm', rfl⟩ := List.mem_map.mp he
  exact pt_m (hm m hm') hS⟩
theorem pt_eR {S : List Bool} (hS : S.length ≤ 1000) {r : List Mk × Int} (h : r.1.length ≤ 1000) (hm : Shp S r.1) : Pt 3 (eR r) := Or.inr ⟨[rowD r.1, .int r.2], Or.inl rfl, by simp, by
  intro e he
  rcases List.mem_cons.mp he with rfl | he
  · exact pt_row hS h hm
  · rw [List.mem_singleton] at he; subst he; exact Or.inl (Or.inr (Or.inl ⟨_, rfl⟩))⟩
theorem pt_list {k : Nat} {ds : List D} (h : ds.length ≤ 1000) (hd : ∀ d ∈ ds, Pt k d) : Pt (k + 1) (.list ds) := Or.inr ⟨ds, Or.inr rfl, h, hd⟩
theorem alikeB_of {α : Type} {f : α → D} {l : List α} (h : ∀ a ∈ l, ∀ b ∈ l, PySem.W.alike (f a).py (f b).py = true) : alikeB (l.map f) = true := by
  unfold alikeB
  rw [List.all_eq_true]
  intro d hd
  obtain ⟨a, ha, rfl⟩ := List.mem_map.mp hd
  rw [List.all_eq_true]
  intro e he
  obtain ⟨b, hb, rfl⟩ := List.mem_map.mp he
  exact h a ha b hb
/-- sorted of rows that are ascending and equally long -/
theorem sort_rows {S : List Bool} (hS : S.length ≤ 1000) {X : List (List Mk × Int)} {t : Nat} (h1 : Asc mlt X) (h2 : ∀ r ∈ X, Shp S r.1) (h3 : ∀ r ∈ X, r.1.length = t) (h4 : X.length ≤ 1000) (ht : t ≤ 1000) : gSortX [.list (X.map fun r => rowD r.1)] = some (.list (X.map fun r => rowD r.1)) := by
  cases X with
  | nil => simp [gSortX, gSort, cOr, gSortI, intsD, sortI]
  | cons a X =>
    cases t with
    | zero =>
      cases X with
      | nil =>
        have : a.1 = [] := List.length_eq_zero_iff.mp (h3 a (by simp))
        simp [gSortX, gSort, cOr, gSortI, intsD, gSortT, tupsD, rowD, this, gSort1, okTup]
      | cons b X =>
        exfalso
        have ha : a.1 = [] := List.length_eq_zero_iff.mp (h3 a (by simp))
        have := (List.pairwise_cons.mp h1).1 b (by simp)
        rw [ha] at this; cases this
    | succ t =>
      refine sortX_D ?_ (sort_id ?_ ?_ ?_ ?_ ?_)
      · have := h3 a (by simp)
        cases e : a.1 with
        | nil => rw [e] at this; simp at this
        | cons m r =>
          rw [List.map_cons, rowD, e, List.map_cons]
          exact sort_none rfl
      · exact (pt_list (by simpa using h4) (by
          intro d hd
          obtain ⟨r, hr, rfl⟩ := List.mem_map.mp hd
          exact pt_row hS (by have := h3 r hr; omega) (h2 r hr))).sh (by omega)
      · unfold sortableB
        rw [List.all_eq_true]
        intro d hd
        obtain ⟨r, hr, rfl⟩ := List.mem_map.mp hd
        have := h3 r hr
        cases e : r.1 with
        | nil => rw [e] at this; simp at this
        | cons m r => rfl
      · exact alikeB_of fun r hr q hq => row_alike (h2 r hr) (h2 q hq)
      · rw [List.length_map]; simp only [maxLen]; omega
      · rw [List.pairwise_map]
        exact h1.imp_of_mem fun {r q} hr hq c => lt_le (row_lt (h2 r hr) (h2 q hq) c).1
theorem sort_eR {S : List Bool} (hS : S.length ≤ 1000) {X : List (List Mk × Int)} {t : Nat} (h1 : Asc mlt X) (h2 : ∀ r ∈ X, Shp S r.1) (h3 : ∀ r ∈ X, r.1.length = t) (h4 : X.length ≤ 1000) (ht : t ≤ 1000) : gSortX [.list (X.map eR)] = some (.list (X.map eR)) := by
  cases X with
  | nil => simp [gSortX, gSort, cOr, gSortI, intsD, sortI]
  | cons a X =>
    refine sortX_D ?_ (sort_id ?_ ?_ ?_ ?_ ?_)
    · rw [List.map_cons, eR]
      exact sort_none rfl
    · exact (pt_list (by simpa using h4) (by
        intro d hd
        obtain ⟨r, hr, rfl⟩ := List.mem_map.mp hd
        exact pt_eR hS (by have := h3 r hr; omega) (h2 r hr))).sh (by omega)
    · unfold sortableB
      rw [List.all_eq_true]
      intro d hd
      obtain ⟨r, hr, rfl⟩ := List.mem_map.mp hd
      rfl
    · exact alikeB_of fun r hr q hq => eR_alike (h2 r hr) (h2 q hq)
    · rw [List.length_map]; simp only [maxLen]; omega
    · rw [List.pairwise_map]
      exact h1.imp_of_mem fun {r q} hr hq c => lt_le (eR_lt (h2 r hr) (h2 q hq) c)
theorem mlt_ne {a b : Mk} (h : mlt a b) : a ≠ b := fun e => by
  subst e
  have := h.1
  rw [PySem.W.dataLt, PyProof.Rows.lex_irrefl] at this; cases this
theorem asc_nd {st : List (Mk × Int)} (h : st.Pairwise fun p q => mlt p.1 q.1) : (st.map (·.1)).Nodup := by
  unfold List.Nodup
  rw [List.pairwise_map]
  exact h.imp mlt_ne
theorem lev_shp {W : Web Mk} {S : List Bool} (h : ∀ st ∈ W, ∀ p ∈ st, MOk S p.1) : ∀ k, ∀ r ∈ lev W k, Shp S r.1
  | 0, r, hr => by simp [lev] at hr; subst hr; intro m hm; simp at hm
  | k + 1, r, hr => by
    rw [lev] at hr
    obtain ⟨q, hq, hr⟩ := List.mem_flatMap.mp hr
    obtain ⟨p, hp, rfl⟩ := List.mem_map.mp hr
    intro m hm
    rcases List.mem_append.mp hm with hm | hm
    · exact lev_shp h k q hq m hm
    · rw [List.mem_singleton] at hm; subst hm
      unfold stp at hp
      cases e : W[q.2.toNat]? with
      | none => rw [e] at hp; simp at hp
      | some s => rw [e] at hp; exact h s (List.mem_of_getElem? e) p hp
theorem Ll_shp {W : Web Mk} {S : List Bool} (h : ∀ st ∈ W, ∀ p ∈ st, MOk S p.1) : ∀ t, ∀ r ∈ (Ll W t).map sw, Shp S r.1
  | 0, r, hr => by simp [Ll_0, sw] at hr; subst hr; intro m hm; simp at hm
  | t + 1, r, hr => by
    have hr := (Ll_sub t).subset hr
    obtain ⟨q, hq, hr⟩ := List.mem_flatMap.mp hr
    obtain ⟨p, hp, rfl⟩ := List.mem_map.mp hr
    intro m hm
    rcases List.mem_append.mp hm with hm | hm
    · exact Ll_shp h t q hq m hm
    · rw [List.mem_singleton] at hm; subst hm
      unfold stp at hp
      cases e : W[q.2.toNat]? with
      | none => rw [e] at hp; simp at hp
      | some s => rw [e] at hp; exact h s (List.mem_of_getElem? e) p hp
theorem go_app (W : Web Mk) : ∀ (r : List Mk) (v : Int) (m : Mk), go W v (r ++ [m]) = match go W v r with
    | some u => go W u [m]
    | none => none
  | [], v, m => rfl
  | a :: r, v, m => by
    rw [List.cons_append, go, go]
    cases (stp W v).find? fun p => decide (p.1 = a) with
    | none => rfl
    | some p => exact go_app W r p.2 m
theorem find_nd {st : List (Mk × Int)} (h : (st.map (·.1)).Nodup) {p : Mk × Int} (hp : p ∈ st) : (st.find? fun q => decide (q.1 = p.1)) = some p := by
  induction st with
  | nil => simp at hp
  | cons a st ih =>
    rw [List.find?_cons]
    rw [List.map_cons, List.nodup_cons] at h
    rcases List.mem_cons.mp hp with rfl | hp
    · simp
    · have : a.1 ≠ p.1 := fun e => h.1 (e ▸ List.mem_map.mpr ⟨p, hp, rfl⟩)
      simp only [this, decide_false]
      exact ih h.2 hp
theorem go_lev {W : Web Mk} (hn : ∀ st ∈ W, (st.map (·.1)).Nodup) : ∀ m, ∀ r ∈ lev W m, go W 0 r.1 = some r.2
  | 0, r, hr => by simp [lev] at hr; subst hr; rfl
  | m + 1, r, hr => by
    rw [lev] at hr
    obtain ⟨q, hq, hr⟩ := List.mem_flatMap.mp hr
    obtain ⟨p, hp, rfl⟩ := List.mem_map.mp hr
    rw [go_app, go_lev hn m q hq]
    have hst : ((stp W q.2).map (·.1)).Nodup := by
      unfold stp
      cases e : W[q.2.toNat]? with
      | none => simp
      | some s => exact hn s (List.mem_of_getElem? e)
    simp only [go, find_nd hst hp]
theorem pt_rows {S : List Bool} (hS : S.length ≤ 1000) {X : List (List Mk × Int)} {t : Nat} (h2 : ∀ r ∈ X, Shp S r.1) (h3 : ∀ r ∈ X, r.1.length = t) (h4 : X.length ≤ 1000) (ht : t ≤ 1000) : Pt 3 (.list (X.map fun r => rowD r.1)) := pt_list (by simpa using h4) (by
  intro d hd
  obtain ⟨r, hr, rfl⟩ := List.mem_map.mp hd
  exact pt_row hS (by have := h3 r hr; omega) (h2 r hr))
theorem ne_nilG {ds : List D} (h : shapedD (.list ds) = true) : gNe (.list ds) (.list []) = some (.bool (!ds.isEmpty)) := by
  have h0 := sh_ints []
  rw [List.map_nil] at h0
  simp only [gNe, h, h0, Bool.true_and, if_true]
  cases ds <;> simp [eqD, D.py, pyAll, PyData.eqv, PyData.eqvAll]
theorem check_number_ok {m a b : Int} (h : a ≤ m ∧ m ≤ b) : m_check_number [.int m, .int a, .int b] = some .none := by
  refine mkF_nx (e := [.va (.int m), .va (.int a), .va (.int b)]) (x := row0) rfl ?_
  have : fCall m_is_number (aCons (fVar 0) (aCons (fVar 1) (aCons (fVar 2) aNil))) [.va (.int m), .va (.int a), .va (.int b)] row0 = some (.bool true, row0) := by
    refine fK (aC3 (vV rfl) (vV rfl) (vV rfl)) ?_
    rw [is_number_eq]; simp [h.1, h.2]
  show b_check_number [.va (.int m), .va (.int a), .va (.int b)] row0 = _
  simp only [b_check_number, sIf, tNotF, fTru, this, truD, Bool.not_true, sNil]
end Lw

namespace Lw
open PySem RT Wb
/-! parts -/
abbrev hearS : Str := Str.ofString "hear"
abbrev sayS : Str := Str.ofString "say"
abbrev StT := Bool × List (Mk × Int)
def eSt (p : Mk × Int) : D := .tuple (p.1.map keyD ++ [.int p.2])
def eSta (s : StT) : D := .tuple [.bool s.1, .tuple (s.2.map eSt)]
def ePa (ps : List StT) : D := .tuple (ps.map eSta)
def evOk (m : Mk) : Prop := ∃ k o w, m = [.inr k, .inl o, .inl w] ∧ (k = hearS ∨ k = sayS) ∧ (0 ≤ o ∧ o ≤ 3) ∧ (0 ≤ w ∧ w ≤ 5)
abbrev S4 : List Bool := [false, true, true]
structure StOk (m : Nat) (s : StT) : Prop where
  l : s.2.length ≤ 2
  e : ∀ p ∈ s.2, evOk p.1
  t : ∀ p ∈ s.2, 0 ≤ p.2 ∧ p.2 < (m : Int)
  a : s.2.Pairwise fun p q => mlt p.1 q.1
structure POk (ps : List StT) : Prop where
  n : 1 ≤ ps.length ∧ ps.length ≤ 8
  s : ∀ s ∈ ps, StOk ps.length s
def wP (ps : List StT) : Web Mk := ps.map (·.2)
variable {ps : List StT}
theorem str_ok {k : Str} (h : k = hearS ∨ k = sayS) : PyData.strOk k = true := by rcases h with rfl | rfl <;> decide +kernel
theorem evOk.mok {m : Mk} (h : evOk m) : MOk S4 m := by
  obtain ⟨k, o, w, rfl, hk, _⟩ := h
  refine ⟨rfl, fun q hq => ?_⟩
  simp only [List.mem_cons, List.not_mem_nil, or_false] at hq
  rcases hq with rfl | rfl | rfl
  · exact str_ok hk
  · exact True.intro
  · exact True.intro
theorem POk.web (h : POk ps) : WOk (wP ps) where
  n := by rw [wP, List.length_map]; exact h.n
  k := by
    intro st hst
    obtain ⟨s, hs, rfl⟩ := List.mem_map.mp hst
    exact (h.s s hs).l
  to := by
    intro st hst p hp
    obtain ⟨s, hs, rfl⟩ := List.mem_map.mp hst
    rw [wP, List.length_map]; exact (h.s s hs).t p hp
theorem POk.asc (h : POk ps) : ∀ st ∈ wP ps, st.Pairwise fun p q => mlt p.1 q.1 := by
  intro st hst
  obtain ⟨s, hs, rfl⟩ := List.mem_map.mp hst
  exact (h.s s hs).a
theorem POk.nd (h : POk ps) : ∀ st ∈ wP ps, (st.map (·.1)).Nodup := fun st hst => asc_nd (h.asc st hst)
theorem POk.ev (h : POk ps) : ∀ st ∈ wP ps, ∀ p ∈ st, evOk p.1 := by
  intro st hst p hp
  obtain ⟨s, hs, rfl⟩ := List.mem_map.mp hst
  exact (h.s s hs).e p hp
theorem POk.shp (h : POk ps) : ∀ st ∈ wP ps, ∀ p ∈ st, MOk S4 p.1 := fun st hst p hp => (h.ev st hst p hp).mok
theorem wP_len : (wP ps).length = ps.length := by simp [wP]
def staAt (ps : List StT) (v : Int) : StT := (ps[v.toNat]?).getD (false, [])
theorem staAt_mem {v : Int} (h0 : 0 ≤ v) (h1 : v < ps.length) : ps[v.toNat]? = some (staAt ps v) ∧ staAt ps v ∈ ps := by
  have hl : v.toNat < ps.length := by omega
  have e : ps[v.toNat]? = some ps[v.toNat] := List.getElem?_eq_getElem hl
  have e2 : staAt ps v = ps[v.toNat] := by unfold staAt; rw [e]; rfl
  rw [e2]; exact ⟨e, List.getElem_mem hl⟩
theorem stp_wP {v : Int} : stp (wP ps) v = (staAt ps v).2 := by
  unfold stp wP staAt
  rw [List.getElem?_map]
  cases ps[v.toNat]? <;> rfl
theorem ePa_at {v : Int} (h0 : 0 ≤ v) (h1 : v < ps.length) : gAt (ePa ps) (.int v) = some (eSta (staAt ps v)) := by
  simp only [ePa, gAt]
  exact atI_int h0 (by rw [List.getElem?_map, (staAt_mem h0 h1).1]; rfl)
theorem eSta_0 (s : StT) : gAt (eSta s) (.int 0) = some (.bool s.1) := by simp only [eSta, gAt, atI_z0]
theorem eSta_1 (s : StT) : gAt (eSta s) (.int 1) = some (.tuple (s.2.map eSt)) := by simp only [eSta, gAt, atI_z1]
theorem evOk.len {m : Mk} (h : evOk m) : m.length = 3 := by obtain ⟨k, o, w, rfl, _⟩ := h; rfl
theorem eSt_3 {p : Mk × Int} (h : evOk p.1) : gAt (eSt p) (.int 3) = some (.int p.2) := by
  simp only [eSt, gAt]
  exact atI_nat (i := 3) (by rw [List.getElem?_append_right (by rw [List.length_map, h.len]; omega), List.length_map, h.len]; rfl)
theorem cut3 {p : Mk × Int} (h : evOk p.1) : cutL (p.1.map keyD ++ [.int p.2]) none (some 3) = p.1.map keyD := by
  obtain ⟨k, o, w, e, _⟩ := h
  rw [e]
  rfl
theorem sl3 {p : Mk × Int} (h : evOk p.1) {f : FE} {env : FEn} {x : FRow} (hf : f env x = some (eSt p, x)) : fSl f oNone (oSome (fC (.int 3))) env x = some (mD p.1, x) := by
  simp only [fSl, hf, oNone, oSome, fC, eSt, gSl, cut3 h]
  rfl
/-! the checks -/
theorem is_event_ok {m : Mk} (h : evOk m) : m_is_event [mD m] = some (.bool true) := by
  obtain ⟨k, o, w, rfl, hk, ho, hw⟩ := h
  refine mkF_rt (x := row0) rfl ?_
  have c1 : sIf (tNotF (fTru (fCall m_has_items (aCons (fVar 0) (aCons (fC (.int 3)) (aCons (fC (.int 3)) aNil)))))) (sRet (fC (.bool false))) sNil [.va (mD [.inr k, .inl o, .inl w]), .no, .no, .no] row0 = some (.nx [.va (mD [.inr k, .inl o, .inl w]), .no, .no, .no], row0) := by
    have := fK (x := row0) (env := [.va (mD [.inr k, .inl o, .inl w]), .no, .no, .no]) (aC3 (vV (i := 0) rfl) (show fC (.int 3) _ _ = some (.int 3, row0) from rfl) (show fC (.int 3) _ _ = some (.int 3, row0) from rfl)) (has_items_eq [.str k, .int o, .int w] 3 3)
    simp only [sIf, tNotF, fTru, this, truD]
    rfl
  have c2 : sUnp (fVar 0) (gtTup 3 (gtCons (gtName 1) (gtCons (gtName 2) (gtCons (gtName 3) gtNil)))) [.va (mD [.inr k, .inl o, .inl w]), .no, .no, .no] row0 = some (.nx [.va (mD [.inr k, .inl o, .inl w]), .va (.str k), .va (.int o), .va (.int w)], row0) := rfl
  show b_is_event [.va (mD [.inr k, .inl o, .inl w]), .no, .no, .no] row0 = _
  unfold b_is_event
  rw [sSeq_nx c1, sSeq_nx c2]
  have d1 : fInS [hearS, sayS] (fBor 1) [.va (mD [.inr k, .inl o, .inl w]), .va (.str k), .va (.int o), .va (.int w)] row0 = some (.bool true, row0) := by
    simp only [fInS, vB (show [FSl.va (mD [.inr k, .inl o, .inl w]), .va (.str k), .va (.int o), .va (.int w)][1]? = some (.va (.str k)) from rfl)]
    rcases hk with rfl | rfl <;> simp
  have d2 : fCall m_is_number (aCons (fVar 2) (aCons (fC (.int 0)) (aCons (fC (.int 3)) aNil))) [.va (mD [.inr k, .inl o, .inl w]), .va (.str k), .va (.int o), .va (.int w)] row0 = some (.bool true, row0) := fK (aC3 (vV rfl) rfl rfl) (by rw [is_number_eq]; simp [ho.1, ho.2])
  have d3 : fCall m_is_number (aCons (fVar 3) (aCons (fC (.int 0)) (aCons (fC (.int 5)) aNil))) [.va (mD [.inr k, .inl o, .inl w]), .va (.str k), .va (.int o), .va (.int w)] row0 = some (.bool true, row0) := fK (aC3 (vV rfl) rfl rfl) (by rw [is_number_eq]; simp [hw.1, hw.2])
  exact sR (fAnd_eq d1 (fAnd_eq d2 d3))
theorem is_step_ok {m : Nat} {p : Mk × Int} (h : evOk p.1) (ht : 0 ≤ p.2 ∧ p.2 < (m : Int)) : m_is_step [eSt p, .int m] = some (.bool true) := by
  refine mkF_rt (x := row0) rfl ?_
  show b_is_step [.va (eSt p), .va (.int m)] row0 = _
  have hl : (p.1.map keyD ++ [D.int p.2]).length = 4 := by rw [List.length_append, List.length_map, h.len]; rfl
  have d1 : fCall m_has_items (aCons (fVar 0) (aCons (fC (.int 4)) (aCons (fC (.int 4)) aNil))) [.va (eSt p), .va (.int m)] row0 = some (.bool true, row0) := fK (aC3 (vV rfl) rfl rfl) (by rw [eSt, has_items_eq, hl]; rfl)
  have d2 : fCall m_is_event (aCons (fSl (fBor 0) oNone (oSome (fC (.int 3)))) aNil) [.va (eSt p), .va (.int m)] row0 = some (.bool true, row0) := fK (aC1 (sl3 h (vB rfl))) (is_event_ok h)
  have d3 : fCall m_is_number (aCons (fBin gAt (fBor 0) (fC (.int 3))) (aCons (fC (.int 0)) (aCons (fBin gSubI (fBor 1) (fC (.int 1))) aNil))) [.va (eSt p), .va (.int m)] row0 = some (.bool true, row0) := by
    refine fK (aC3 (fB (vB rfl) rfl (eSt_3 h)) rfl (fB (vB rfl) rfl (r := .int ((m : Int) - 1)) rfl)) ?_
    rw [is_number_eq]
    have : p.2 ≤ (m : Int) - 1 := by omega
    simp [ht.1, this]
  exact sR (fAnd_eq d1 (fAnd_eq d2 d3))
theorem rg1 {f : FE} {env : FEn} {x : FRow} {n : Nat} (h : f env x = some (.int (n : Int), x)) (hn : n ≤ 1000) : fRg1 f env x = some (rgD 0 n, x) := by
  simp only [fRg1, h, rg_ok hn, if_true, Int.toNat_natCast]
theorem rising_le2 {l : List (Mk × Int)} (hl : l.length ≤ 2) (he : ∀ p ∈ l, evOk p.1) (ha : l.Pairwise fun p q => mlt p.1 q.1) : m_is_rising [.list (l.map fun p => mD p.1)] = some (.bool true) := by
  refine mkF_rt (x := row0) rfl ?_
  show b_is_rising [.va (.list (l.map fun p => mD p.1)), .no] row0 = _
  match l, hl, he, ha with
  | [], _, _, _ => rfl
  | [a], _, _, _ =>
    have c0 : fBin gSubI (fCall gLen (aCons (fBor 0) aNil)) (fC (.int 1)) [.va (.list [mD a.1]), .no] row0 = some (.int ((0 : Nat) : Int), row0) := fB (fK (aC1 (vB rfl)) (r := .int 1) rfl) rfl rfl
    have c : fOfX (xLc (fRg1 (fBin gSubI (fCall gLen (aCons (fBor 0) aNil)) (fC (.int 1)))) (gtName 1) tYesF (fBin gLtX (fBin gAt (fBor 0) (fBor 1)) (fBin gAt (fBor 0) (fBin gAdd (fBor 1) (fC (.int 1))))) [1]) [.va (.list [mD a.1]), .no] row0 = some (.list [], row0) := lc_eq (ds := rgD 0 0) (rg1 c0 (by omega)) rfl (nob_n (Nat.zero_le _))
    exact sR (fK (aC1 c) rfl)
  | [a, b], _, he, ha =>
    have hab : mlt a.1 b.1 := (List.pairwise_cons.mp ha).1 b (by simp)
    have ea := (he a (by simp)).mok
    have eb := (he b (by simp)).mok
    have hs1 := (pt_m ea (by decide)).sh (by omega)
    have hs2 := (pt_m eb (by decide)).sh (by omega)
    have hk := m_alike (ea.1.trans eb.1.symm)
    have hn : isNoneD (mD a.1) = false := rfl
    have g1 : gLtX (mD a.1) (mD b.1) = some (.bool true) := by
      have : gLt (mD a.1) (mD b.1) = none := by
        obtain ⟨k, o, w, e, _⟩ := he a (by simp)
        rw [e]; rfl
      simp only [gLtX, gOr, this, gLtD, hs1, hs2, hk, hn, hab.1, Bool.not_false, Bool.and_self, if_true]
    have c : fOfX (xLc (fRg1 (fBin gSubI (fCall gLen (aCons (fBor 0) aNil)) (fC (.int 1)))) (gtName 1) tYesF (fBin gLtX (fBin gAt (fBor 0) (fBor 1)) (fBin gAt (fBor 0) (fBin gAdd (fBor 1) (fC (.int 1))))) [1]) [.va (.list [mD a.1, mD b.1]), .no] row0 = some (.list [.bool true], row0) := by
      have c0 : fBin gSubI (fCall gLen (aCons (fBor 0) aNil)) (fC (.int 1)) [.va (.list [mD a.1, mD b.1]), .no] row0 = some (.int ((1 : Nat) : Int), row0) := fB (fK (aC1 (vB rfl)) (r := .int 2) rfl) rfl rfl
      refine lc_eq (ds := [.int 0]) (rg1 c0 (by omega)) ?_ (nob_n (by simp))
      have q : fBin gLtX (fBin gAt (fBor 0) (fBor 1)) (fBin gAt (fBor 0) (fBin gAdd (fBor 1) (fC (.int 1)))) [.va (.list [mD a.1, mD b.1]), .va (.int 0)] row0 = some (.bool true, row0) := fB (fB (vB rfl) (vB rfl) atI_z0) (fB (vB rfl) (fB (vB rfl) rfl (r := .int 1) rfl) atI_z1) g1
      have : compL (gtName 1) tYesF (fBin gLtX (fBin gAt (fBor 0) (fBor 1)) (fBin gAt (fBor 0) (fBin gAdd (fBor 1) (fC (.int 1))))) [.va (.list [mD a.1, mD b.1]), .no] [.int 0] row0 = some ([.bool true], row0) := by
        rw [compL, show gtName 1 (D.int 0) [.va (.list [mD a.1, mD b.1]), .no] = some [.va (.list [mD a.1, mD b.1]), .va (.int 0)] from rfl]
        simp only [tYesF, q, compL]
      exact this
    exact sR (fK (aC1 c) (by simp [gAll, bools]))
theorem is_state_ok {m : Nat} {s : StT} (h : StOk m s) : m_is_state [eSta s, .int m] = some (.bool true) := by
  refine mkF_rt (x := row0) rfl ?_
  have c1 : sIf (tNotF (fTru (fCall m_has_items (aCons (fVar 0) (aCons (fC (.int 2)) (aCons (fC (.int 2)) aNil)))))) (sRet (fC (.bool false))) sNil [.va (eSta s), .va (.int m), .no, .no, .no] row0 = some (.nx [.va (eSta s), .va (.int m), .no, .no, .no], row0) := by
    have := fK (x := row0) (env := [.va (eSta s), .va (.int m), .no, .no, .no]) (aC3 (vV (i := 0) rfl) (show fC (.int 2) _ _ = some (.int 2, row0) from rfl) (show fC (.int 2) _ _ = some (.int 2, row0) from rfl)) (has_items_eq [.bool s.1, .tuple (s.2.map eSt)] 2 2)
    simp only [sIf, tNotF, fTru, this, truD]
    rfl
  have c2 : sUnp (fVar 0) (gtTup 2 (gtCons (gtName 2) (gtCons (gtName 3) gtNil))) [.va (eSta s), .va (.int m), .no, .no, .no] row0 = some (.nx [.va (eSta s), .va (.int m), .va (.bool s.1), .va (.tuple (s.2.map eSt)), .no], row0) := rfl
  have c3 : sIf (tOrF (tNotF (fTru (fIsi .bool (fBor 2)))) (tNotF (fTru (fIsi .tuple (fBor 3))))) (sRet (fC (.bool false))) sNil [.va (eSta s), .va (.int m), .va (.bool s.1), .va (.tuple (s.2.map eSt)), .no] row0 = some (.nx [.va (eSta s), .va (.int m), .va (.bool s.1), .va (.tuple (s.2.map eSt)), .no], row0) := by
    simp [sIf, tOrF, tNotF, fTru, fIsi, fBor, isiD, truD, sNil]
  have hlen : (s.2.map fun _ => D.bool true).length < maxLen := by rw [List.length_map]; exact nob_n (by have := h.l; omega)
  have l1 : fOfX (xLc (fSeq (fVar 3)) (gtName 4) tYesF (fCall m_is_step (aCons (fVar 4) (aCons (fVar 1) aNil))) [4]) [.va (eSta s), .va (.int m), .va (.bool s.1), .va (.tuple (s.2.map eSt)), .no] row0 = some (.list (s.2.map fun _ => .bool true), row0) :=
    lc_eq (ds := s.2.map eSt) (sqT (vV rfl)) (compL_map eSt _ s.2 fun p hp => ⟨_, rfl, rfl, fK (aC2 (vV rfl) (vV rfl)) (is_step_ok (h.e p hp) (h.t p hp))⟩) hlen
  have hall : gAll [.list (s.2.map fun _ => D.bool true)] = some (.bool true) := by
    have := bools_map (fun _ : Mk × Int => true) s.2
    simp only [gAll, this]
    congr 2
    rw [List.all_eq_true]
    intro b hb
    obtain ⟨_, _, rfl⟩ := List.mem_map.mp hb
    rfl
  have c4 : sIf (tNotF (fTru (fCall gAll (aCons (fOfX (xLc (fSeq (fVar 3)) (gtName 4) tYesF (fCall m_is_step (aCons (fVar 4) (aCons (fVar 1) aNil))) [4])) aNil)))) (sRet (fC (.bool false))) sNil [.va (eSta s), .va (.int m), .va (.bool s.1), .va (.tuple (s.2.map eSt)), .no] row0 = some (.nx [.va (eSta s), .va (.int m), .va (.bool s.1), .va (.tuple (s.2.map eSt)), .no], row0) := by
    have := fK (aC1 l1) hall
    simp only [sIf, tNotF, fTru, this, truD, Bool.not_true, sNil]
  have l2 : fOfX (xLc (fSeq (fVar 3)) (gtName 4) tYesF (fSl (fBor 4) oNone (oSome (fC (.int 3)))) [4]) [.va (eSta s), .va (.int m), .va (.bool s.1), .va (.tuple (s.2.map eSt)), .no] row0 = some (.list (s.2.map fun p => mD p.1), row0) :=
    lc_eq (ds := s.2.map eSt) (sqT (vV rfl)) (compL_map eSt _ s.2 fun p hp => ⟨_, rfl, rfl, sl3 (h.e p hp) (vB rfl)⟩) (by rw [List.length_map]; exact nob_n (by have := h.l; omega))
  show b_is_state [.va (eSta s), .va (.int m), .no, .no, .no] row0 = _
  unfold b_is_state
  rw [sSeq_nx c1, sSeq_nx c2, sSeq_nx c3, sSeq_nx c4]
  exact sR (fK (aC1 l2) (rising_le2 h.l h.e h.a))
theorem check_part_ok (h : POk ps) : m_check_part [ePa ps] = some .none := by
  have hn := h.n
  obtain ⟨e3, h4, p, q, rfl⟩ := forL_ix (gt := gtTup 2 (gtCons (gtName 1) (gtCons (gtName 2) gtNil))) (b := sIf (tNotF (fTru (fCall m_is_state (aCons (fVar 2) (aCons (fCall gLen (aCons (fBor 0) aNil)) aNil))))) sNo sNil) (x := row0) (fun p : StT × Nat => D.tuple [.int (p.2 : Int), eSta p.1]) ps.zipIdx (fun _ env => ∃ p q, env = [.va (ePa ps), p, q]) [.va (ePa ps), .no, .no] ⟨_, _, rfl⟩ (by
    rintro i hi _ ⟨p, q, rfl⟩
    rw [List.length_zipIdx] at hi
    rw [List.getElem_zipIdx]
    have : fCall m_is_state (aCons (fVar 2) (aCons (fCall gLen (aCons (fBor 0) aNil)) aNil)) [.va (ePa ps), .va (.int ((0 + i : Nat) : Int)), .va (eSta ps[i])] row0 = some (.bool true, row0) := fK (aC2 (vV rfl) (fK (aC1 (vB rfl)) (by simp only [gLen, ePa, List.length_map]))) (is_state_ok (h.s _ (List.getElem_mem hi)))
    refine ⟨[.va (ePa ps), .va (.int ((0 + i : Nat) : Int)), .va (eSta ps[i])], [.va (ePa ps), .va (.int ((0 + i : Nat) : Int)), .va (eSta ps[i])], rfl, ?_, _, _, rfl⟩
    simp only [sIf, tNotF, fTru, this, truD, Bool.not_true, sNil])
  refine mkF_nx (e := [.va (ePa ps), p, q]) (x := row0) rfl ?_
  show b_check_part [.va (ePa ps), .no, .no] row0 = _
  have c1 : sIf (tNotF (fTru (fCall m_has_items (aCons (fVar 0) (aCons (fC (.int 1)) (aCons (fC (.int 255)) aNil)))))) sNo sNil [.va (ePa ps), .no, .no] row0 = some (.nx [.va (ePa ps), .no, .no], row0) := by
    have := fK (x := row0) (env := [.va (ePa ps), .no, .no]) (aC3 (vV (i := 0) rfl) (show fC (.int 1) _ _ = some (.int 1, row0) from rfl) (show fC (.int 255) _ _ = some (.int 255, row0) from rfl)) (has_items_eq (ps.map eSta) 1 255)
    have h1 : decide ((1 : Int) ≤ ((ps.map eSta).length : Int)) = true := by rw [List.length_map]; simp only [decide_eq_true_eq]; omega
    have h2 : decide (((ps.map eSta).length : Int) ≤ 255) = true := by rw [List.length_map]; simp only [decide_eq_true_eq]; omega
    rw [h1, h2] at this
    simp only [sIf, tNotF, fTru, this, truD, Bool.and_self, Bool.not_true, sNil]
  unfold b_check_part
  rw [sSeq_nx c1]
  refine for_eq (ds := enD (ps.map eSta)) (x1 := row0) ?_ ?_
  · simp only [fEn, vV (show [FSl.va (ePa ps), .no, .no][0]? = some (.va (ePa ps)) from rfl)]; rfl
  · rw [enD_map]; exact h4
theorem event_web_eq (h : POk ps) : m_event_web [ePa ps] = some (wD (wP ps)) := by
  refine mkF_rt (x := row0) rfl ?_
  show b_event_web [.va (ePa ps), .no, .no, .no] row0 = _
  have hn := h.n
  have e : wD (wP ps) = .list (ps.map fun s => stD s.2) := by rw [wD, wP, List.map_map]; rfl
  rw [e]
  refine sR (lc_eq (ds := ps.map eSta) (sqT (vV rfl)) (compL_map eSta _ ps fun s hs => ⟨[.va (ePa ps), .va (.bool s.1), .va (.tuple (s.2.map eSt)), .no], rfl, rfl, ?_⟩) (by rw [List.length_map]; exact nob_n (by omega)))
  have hs' := h.s s hs
  refine lc_eq (ds := s.2.map eSt) (sqT (vV rfl)) (compL_map eSt _ s.2 fun p hp => ⟨_, rfl, rfl, ?_⟩) (by rw [List.length_map]; exact nob_n (by have := hs'.l; omega))
  exact fTup_ok (aC2 (sl3 (hs'.e p hp) (vB rfl)) (fB (vB rfl) rfl (eSt_3 (hs'.e p hp)))) two_ml
abbrev OP (ps : List StT) : List Int := Bf.ord (G (wP ps)) 0
theorem dropP (h : POk ps) {rest : List FSl} {x : FRow} : sDrop (fCall m_check_part (aCons (fVar 0) aNil)) (.va (ePa ps) :: rest) x = some (.nx (.va (ePa ps) :: rest), x) := by
  have := fK (x := x) (env := .va (ePa ps) :: rest) (aC1 (vV (i := 0) rfl)) (check_part_ok h)
  simp only [sDrop, this]
theorem OP_in (h : POk ps) : ∀ u ∈ OP ps, 0 ≤ u ∧ u < (ps.length : Int) := fun u hu => by
  have := Bf.ord_in (web_ok h.web) (z_in h.web) u hu
  rw [wP_len] at this; exact this
theorem OP_len (h : POk ps) : (OP ps).length ≤ 8 := by
  have := Bf.ord_len (web_ok h.web) (z_in h.web)
  have := h.web.n; unfold OP; omega
end Lw

namespace Lw
open PySem RT Wb
variable {ps : List StT}
def nmD (l : List (Int × Nat)) : List (D × D) := l.map fun p => (D.int p.1, D.int (p.2 : Int))
theorem nm_any (t : Int) (l : List (Int × Nat)) : ((nmD l).any fun p => decide (dKey p.1 = some (.inl t))) = decide (t ∈ l.map (·.1)) := by
  induction l with
  | nil => rfl
  | cons a l ih =>
    have : nmD (a :: l) = (D.int a.1, D.int (a.2 : Int)) :: nmD l := rfl
    rw [this, List.any_cons, ih]
    simp only [dKey, List.map_cons, List.mem_cons, Option.some.injEq, Sum.inl.injEq]
    by_cases h : a.1 = t
    · simp [h]
    · have : ¬ t = a.1 := fun h2 => h h2.symm
      simp [h, this]
theorem nm_dc {env : FEn} (he : ∀ p : Int × Nat, gtTup 2 (gtCons (gtName 1) (gtCons (gtName 2) gtNil)) (.tuple [.int (p.2 : Int), .int p.1]) env = some [.va (.list []), .va (.int (p.2 : Int)), .va (.int p.1)] ∨ ∃ d, gtTup 2 (gtCons (gtName 1) (gtCons (gtName 2) gtNil)) (.tuple [.int (p.2 : Int), .int p.1]) env = some [d, .va (.int (p.2 : Int)), .va (.int p.1)]) : ∀ (l acc : List (Int × Nat)), ((acc ++ l).map (·.1)).Nodup → (acc ++ l).length ≤ 100 → dcL (gtTup 2 (gtCons (gtName 1) (gtCons (gtName 2) gtNil))) tYesF (fVar 2) (fVar 1) env (l.map fun p => .tuple [.int (p.2 : Int), .int p.1]) (nmD acc) row0 = some (nmD (acc ++ l), row0)
  | [], acc, _, _ => by simp [dcL]
  | p :: l, acc, h, hl => by
    have ih := nm_dc he l (acc ++ [p]) (by simpa using h) (by simpa using hl)
    have hno : ¬ p.1 ∈ acc.map (·.1) := by
      intro hm
      rw [List.map_append, List.nodup_append] at h
      exact h.2.2 p.1 hm p.1 (by simp) rfl
    have hp : putD dKey (nmD acc) (.int p.1) (.inl p.1) (.int (p.2 : Int)) = nmD (acc ++ [p]) := by
      unfold putD
      rw [nm_any, if_neg (by simpa using hno)]
      simp [nmD]
    have hle : (nmD acc).length < maxLen := by simp only [List.length_append, List.length_cons] at hl; simp only [nmD, List.length_map, maxLen]; omega
    have hd : ∃ d, gtTup 2 (gtCons (gtName 1) (gtCons (gtName 2) gtNil)) (.tuple [.int (p.2 : Int), .int p.1]) env = some [d, .va (.int (p.2 : Int)), .va (.int p.1)] := by
      rcases he p with h | h
      · exact ⟨_, h⟩
      · exact h
    obtain ⟨d, hd⟩ := hd
    rw [List.map_cons, dcL, hd]
    simp only [tYesF, fVar, List.getElem?_cons_succ, List.getElem?_cons_zero, dKey, if_pos hle, hp, ih]
    simp
theorem names_eq {O : List Int} (hn : O.Nodup) (hl : O.length ≤ 90) : m_new_names [.list (O.map .int)] = some (.dict (nmD O.zipIdx)) := by
  refine mkF_rt (x := row0) rfl ?_
  have c1 : fEn (fVar 0) [.va (.list (O.map .int)), .no, .no] row0 = some (O.zipIdx.map (fun p => .tuple [.int (p.2 : Int), .int p.1]), row0) := by
    simp only [fEn, fVar]; rw [← enD_map]; rfl
  have c2 := nm_dc (env := [.va (.list (O.map .int)), .no, .no]) (fun p => Or.inr ⟨_, rfl⟩) O.zipIdx [] (by simpa using hn) (by simp; omega)
  have c3 : xDc (fEn (fVar 0)) (gtTup 2 (gtCons (gtName 1) (gtCons (gtName 2) gtNil))) tYesF (fVar 2) (fVar 1) [1, 2] [.va (.list (O.map .int)), .no, .no] row0 = some (.ow (.dk (nmD O.zipIdx)), row0) := by
    rw [xDc, c1]
    simp only
    rw [show wipeE [.va (.list (O.map .int)), .no, .no] [1, 2] = [.va (.list (O.map .int)), .no, .no] from rfl]
    rw [show ([] : List (D × D)) = nmD [] from rfl, c2]
    simp
  show b_new_names [.va (.list (O.map .int)), .no, .no] row0 = _
  simp [b_new_names, sRet, fOfX, c3, OwD.d]
theorem nm_val (t : Int) : ∀ (O : List Int) (j : Nat), t ∈ O → valD dKey (nmD (O.zipIdx j)) (.inl t) = some (.int ((j + O.idxOf t : Nat) : Int))
  | [], _, h => by simp at h
  | a :: O, j, h => by
    have e : nmD ((a :: O).zipIdx j) = (D.int a, D.int (j : Int)) :: nmD (O.zipIdx (j + 1)) := by simp [nmD]
    rw [e]
    by_cases c : a = t
    · subst c
      simp [valD, dKey]
    · have ht : t ∈ O := by
        rcases List.mem_cons.mp h with h | h
        · exact absurd h.symm c
        · exact h
      have ih := nm_val t O (j + 1) ht
      have hi : (a :: O).idxOf t = O.idxOf t + 1 := by
        have hbe : (a == t) = false := by simp [c]
        simp [List.idxOf_cons, hbe]
      rw [hi]
      unfold valD at ih ⊢
      rw [List.find?_cons_of_neg (by simp [dKey, c]), ih]
      congr 2; omega
theorem nm_at {t : Int} {O : List Int} (h : t ∈ O) : gAt (.dict (nmD O.zipIdx)) (.int t) = some (.int (Bf.idx O t)) := by
  simp only [gAt, gDAt, gDGet, dKey, nm_val t O 0 h]
  simp [Bf.idx]
/-! trimmed_part -/
def rnS (O : List Int) (s : StT) : StT := (s.1, s.2.map fun p => (p.1, Bf.idx O p.2))
def trP (ps : List StT) : List StT := (OP ps).map fun v => rnS (OP ps) (staAt ps v)
theorem renamed_eq {O : List Int} {s : StT} (hl : s.2.length ≤ 2) (he : ∀ p ∈ s.2, evOk p.1) (h : ∀ p ∈ s.2, p.2 ∈ O) : m_renamed_state [eSta s, .dict (nmD O.zipIdx)] = some (eSta (rnS O s)) := by
  refine mkF_rt (x := row0) rfl ?_
  have c1 : sUnp (fVar 0) (gtTup 2 (gtCons (gtName 2) (gtCons (gtName 3) gtNil))) [.va (eSta s), .va (.dict (nmD O.zipIdx)), .no, .no, .no, .no, .no, .no] row0 = some (.nx [.va (eSta s), .va (.dict (nmD O.zipIdx)), .va (.bool s.1), .va (.tuple (s.2.map eSt)), .no, .no, .no, .no], row0) := rfl
  have l1 : fOfX (xLc (fSeq (fVar 3)) (gtTup 4 (gtCons (gtName 4) (gtCons (gtName 5) (gtCons (gtName 6) (gtCons (gtName 7) gtNil))))) tYesF (fTup (aCons (fVar 4) (aCons (fVar 5) (aCons (fVar 6) (aCons (fBin gAt (fBor 1) (fBor 7)) aNil))))) [4, 5, 6, 7]) [.va (eSta s), .va (.dict (nmD O.zipIdx)), .va (.bool s.1), .va (.tuple (s.2.map eSt)), .no, .no, .no, .no] row0 = some (.list ((rnS O s).2.map eSt), row0) := by
    rw [rnS, List.map_map]
    refine lc_eq (ds := s.2.map eSt) (sqT (vV rfl)) (compL_map eSt _ s.2 fun p hp => ?_) (by rw [List.length_map]; exact nob_n (by omega))
    obtain ⟨k, o, w, e, _⟩ := he p hp
    refine ⟨[.va (eSta s), .va (.dict (nmD O.zipIdx)), .va (.bool s.1), .va (.tuple (s.2.map eSt)), .va (.str k), .va (.int o), .va (.int w), .va (.int p.2)], ?_, rfl, ?_⟩
    · rw [eSt, e]; rfl
    · have q := fB (x := row0) (env := [.va (eSta s), .va (.dict (nmD O.zipIdx)), .va (.bool s.1), .va (.tuple (s.2.map eSt)), .va (.str k), .va (.int o), .va (.int w), .va (.int p.2)]) (vB (i := 1) rfl) (vB (i := 7) rfl) (nm_at (h p hp))
      have q2 := fTup_ok (aCons_eq (f := fVar 4) (vV rfl) (aCons_eq (f := fVar 5) (vV rfl) (aCons_eq (f := fVar 6) (vV rfl) (aCons1 q)))) (ml 4 (by omega))
      rw [q2]
      simp only [Function.comp, eSt, e]
      rfl
  show b_renamed_state [.va (eSta s), .va (.dict (nmD O.zipIdx)), .no, .no, .no, .no, .no, .no] row0 = _
  unfold b_renamed_state
  rw [sSeq_nx c1]
  exact sR (fTup_ok (aC2 (vV rfl) (tupOf_ok l1)) two_ml)
theorem OP_go (h : POk ps) {v : Int} (hv : v ∈ OP ps) : ∀ p ∈ (staAt ps v).2, p.2 ∈ OP ps := fun p hp => Bf.ord_go (web_ok h.web) (z_in h.web) hv (List.mem_map.mpr ⟨p, by rw [stp_wP]; exact hp, rfl⟩)
theorem OP_nd : (OP ps).Nodup := Bf.ord_nd
theorem sta_ok (h : POk ps) {v : Int} (hv : v ∈ OP ps) : StOk ps.length (staAt ps v) := by
  have := OP_in h v hv
  exact h.s _ (staAt_mem this.1 this.2).2
theorem come2_eq (h : POk ps) : m_part_that_comes [ePa ps] = some (ePa (trP ps)) := by
  refine mkF_rt (x := row0) rfl ?_
  have hl := OP_len h
  have c1 : sSet 1 (xVal (fCall m_coming (aCons (fCall m_event_web (aCons (fVar 0) aNil)) (aCons (fC (.int 0)) aNil)))) [.va (ePa ps), .no, .no, .no] row0 = some (.nx [.va (ePa ps), .va (il (OP ps)), .no, .no], row0) := sV (fK (aC2 (fK (aC1 (vV rfl)) (event_web_eq h)) rfl) (coming_W h.web (z_in h.web)))
  have c2 : sSet 2 (xVal (fCall m_new_names (aCons (fVar 1) aNil))) [.va (ePa ps), .va (il (OP ps)), .no, .no] row0 = some (.nx [.va (ePa ps), .va (il (OP ps)), .va (.dict (nmD (OP ps).zipIdx)), .no], row0) := sV (fK (aC1 (vV rfl)) (names_eq OP_nd (by omega)))
  have l1 : fOfX (xLc (fSeq (fVar 1)) (gtName 3) tYesF (fCall m_renamed_state (aCons (fBin gAt (fBor 0) (fBor 3)) (aCons (fVar 2) aNil))) [3]) [.va (ePa ps), .va (il (OP ps)), .va (.dict (nmD (OP ps).zipIdx)), .no] row0 = some (.list ((trP ps).map eSta), row0) := by
    rw [trP, List.map_map]
    refine lc_eq (ds := (OP ps).map .int) (sqL (vV rfl)) (compL_map D.int _ _ fun v hv => ⟨_, rfl, rfl, ?_⟩) (by rw [List.length_map]; exact nob_n (by omega))
    have hv' := OP_in h v hv
    have so := sta_ok h hv
    exact fK (aC2 (fB (vB rfl) (vB rfl) (ePa_at hv'.1 hv'.2)) (vV rfl)) (renamed_eq so.l so.e (OP_go h hv))
  show b_part_that_comes [.va (ePa ps), .no, .no, .no] row0 = _
  unfold b_part_that_comes
  rw [sSeq_nx c1, sSeq_nx c2]
  exact sR (tupOf_ok l1)
theorem trimmed_eq (h : POk ps) : m_trimmed_part [ePa ps] = some (ePa (trP ps)) := by
  refine mkF_rt (x := row0) rfl ?_
  show b_trimmed_part [.va (ePa ps)] row0 = _
  unfold b_trimmed_part
  rw [sSeq_nx (dropP h)]
  exact sR (fK (aC1 (vV rfl)) (come2_eq h))
/-! others, may_rest, is_plain -/
def otherOf (m : Mk) : Int := match m with
  | _ :: .inl o :: _ => o
  | _ => 0
theorem eSt_1 {p : Mk × Int} (h : evOk p.1) : gAt (eSt p) (.int 1) = some (.int (otherOf p.1)) := by
  obtain ⟨k, o, w, e, _⟩ := h
  simp only [eSt, e, gAt]
  exact atI_nat (i := 1) rfl
def kindOf (m : Mk) : Str := match m with
  | .inr k :: _ => k
  | _ => sayS
theorem eSt_0 {p : Mk × Int} (h : evOk p.1) : gAt (eSt p) (.int 0) = some (.str (kindOf p.1)) := by
  obtain ⟨k, o, w, e, _⟩ := h
  simp only [eSt, e, gAt]
  exact atI_nat (i := 0) rfl
theorem flat_map {α β : Type} (g : β → D) (f : α → List β) : ∀ l : List α, (l.flatMap fun a => (f a).map g) = (l.flatMap f).map g
  | [] => rfl
  | a :: l => by rw [List.flatMap_cons, List.flatMap_cons, List.map_append, flat_map g f l]
theorem sortX_int (l : List Int) : gSortX [.list (l.map .int)] = some (.list ((sortI l).map .int)) := by
  have : gSort [.list (l.map .int)] = some (.list ((sortI l).map .int)) := by simp [gSort, cOr, gSortI, intsD_map]
  simp only [gSortX, cOr, this]
def rests (ps : List StT) (v : Int) : Bool := (staAt ps v).1
abbrev RP (ps : List StT) : List Int := sortI (OP ps)
theorem RP_mem {v : Int} (h : v ∈ RP ps) : v ∈ OP ps := (sortI_perm _).mem_iff.mp h
theorem RP_len (h : POk ps) : (RP ps).length ≤ 8 := by rw [RP, (sortI_perm _).length_eq]; exact OP_len h
theorem rest_t (h : POk ps) {v : Int} (hv : 0 ≤ v ∧ v < (ps.length : Int)) {f g : FE} {env : FEn} {x : FRow} (hf : f env x = some (ePa ps, x)) (hg : g env x = some (.int v, x)) : fTru (fBin gAt (fBin gAt f g) (fC (.int 0))) env x = some (rests ps v, x) := by
  have := fB (fB hf hg (ePa_at hv.1 hv.2)) (show fC (.int 0) env x = some (.int 0, x) from rfl) (eSta_0 _)
  simp only [fTru, this, truD]; rfl
/-- plain: says alone, hears alone, or neither -/
def says (s : StT) : List (Mk × Int) := s.2.filter fun p => decide (kindOf p.1 = sayS)
theorem in_strs (t : Str) (ht : PyData.strOk t = true) (l : List Str) (hl : l.length ≤ 1000) (hk : ∀ k ∈ l, PyData.strOk k = true) : gInA (.str t) (.list (l.map .str)) = some (.bool (l.any fun k => decide (k = t))) := by
  have h1 : shapedD (.str t) = true := Pt.sh (k := 0) (Or.inr (Or.inr (Or.inl ⟨t, rfl, ht⟩))) (by omega)
  have h2 : shapedD (.list (l.map .str)) = true := (pt_list (k := 0) (by simpa using hl) (by
    intro d hd
    obtain ⟨k, hk', rfl⟩ := List.mem_map.mp hd
    exact Or.inr (Or.inr (Or.inl ⟨k, rfl, hk k hk'⟩)))).sh (by omega)
  have h3 : ((l.map D.str).any fun z => eqD z (.str t)) = l.any fun k => decide (k = t) := by
    rw [List.any_map]
    congr 1
  show gIn (.str t) (.list (l.map .str)) = _
  simp only [gIn, h1, h2, Bool.and_self, if_true, h3]
theorem kind_ok {m : Mk} (h : evOk m) : kindOf m = hearS ∨ kindOf m = sayS := by obtain ⟨k, o, w, rfl, hk, _⟩ := h; exact hk
/-! runs, resting_runs, behind -/
abbrev allP (ps : List StT) : List Int := (List.range ps.length).map fun (i : Nat) => (i : Int)
theorem mem_allP {v : Int} (h : 0 ≤ v ∧ v < ((wP ps).length : Int)) : v ∈ allP ps := by
  rw [wP_len] at h
  exact List.mem_map.mpr ⟨v.toNat, by simp; omega, by omega⟩
theorem dropN {ps : List StT} {m : Nat} (hm : m ≤ 12) {rest : List FSl} {x : FRow} : sDrop (fCall m_check_number (aCons (fVar 1) (aCons (fC (.int 0)) (aCons (fC (.int 12)) aNil)))) (.va (ePa ps) :: .va (.int m) :: rest) x = some (.nx (.va (ePa ps) :: .va (.int m) :: rest), x) := by
  have := fK (x := x) (env := .va (ePa ps) :: .va (.int m) :: rest) (aC3 (vV (i := 1) rfl) (show fC (.int 0) _ _ = some (.int 0, x) from rfl) (show fC (.int 12) _ _ = some (.int 12, x) from rfl)) (check_number_ok (m := m) (a := 0) (b := 12) (by omega))
  simp only [sDrop, this]
theorem runs_eq (h : POk ps) {m : Nat} (hm : m ≤ 12) : m_runs [ePa ps, .int m] = some (.list ((lev (wP ps) m).map fun r => rowD r.1)) := by
  refine mkF_rt (x := row0) rfl ?_
  have hr := rows_to_eq (gs := allP ps) h.web hm
  have ha : ((lev (wP ps) m).filter fun r => decide (r.2 ∈ allP ps)) = lev (wP ps) m := by
    rw [List.filter_eq_self]
    exact fun r hr => decide_eq_true (mem_allP (lev_in h.web m r hr).1)
  rw [ha] at hr
  have hn := h.n
  have h1 : okRg (ps.length : Int) = true := rg_ok (by omega)
  have h2 : decide ((ps.length : Int) ≤ 16777216) = true := by simp only [decide_eq_true_eq]; omega
  have c : fLrg1 (fCall gLen (aCons (fBor 0) aNil)) [.va (ePa ps), .va (.int m)] row0 = some (il (allP ps), row0) := by
    have c0 : fCall gLen (aCons (fBor 0) aNil) [.va (ePa ps), .va (.int m)] row0 = some (.int (ps.length : Nat), row0) := fK (aC1 (vB rfl)) (by simp only [gLen, ePa, List.length_map])
    simp only [fLrg1, c0, h1, h2, Bool.and_self, if_true, Int.toNat_natCast, rgD_map, il, allP, List.map_map]
    rfl
  show b_runs [.va (ePa ps), .va (.int m)] row0 = _
  unfold b_runs
  rw [sSeq_nx (dropP h), sSeq_nx (dropN hm)]
  exact sR (fK (aC3 (fK (aC1 (vV rfl)) (event_web_eq h)) c (vV rfl)) hr)
theorem resting_eq (h : POk ps) {m : Nat} (hm : m ≤ 12) : m_resting_runs [ePa ps, .int m] = some (.list (((lev (wP ps) m).filter fun r => rests ps r.2).map fun r => rowD r.1)) := by
  refine mkF_rt (x := row0) rfl ?_
  have hr := rows_to_eq (gs := (allP ps).filter (rests ps)) h.web hm
  have ha : ((lev (wP ps) m).filter fun r => decide (r.2 ∈ (allP ps).filter (rests ps))) = (lev (wP ps) m).filter fun r => rests ps r.2 := by
    refine List.filter_congr fun r hr => ?_
    have := mem_allP (lev_in h.web m r hr).1
    simp [List.mem_filter, this]
  rw [ha] at hr
  have hn := h.n
  have l1 : fOfX (xLc (fRg1 (fCall gLen (aCons (fBor 0) aNil))) (gtName 3) (fTru (fBin gAt (fBin gAt (fBor 0) (fBor 3)) (fC (.int 0)))) (fVar 3) [3]) [.va (ePa ps), .va (.int m), .no, .no] row0 = some (il ((allP ps).filter (rests ps)), row0) := by
    have c0 : fCall gLen (aCons (fBor 0) aNil) [.va (ePa ps), .va (.int m), .no, .no] row0 = some (.int (ps.length : Nat), row0) := fK (aC1 (vB rfl)) (by simp only [gLen, ePa, List.length_map])
    have hd : rgD 0 ps.length = (allP ps).map .int := by rw [rgD_map, allP, List.map_map]; rfl
    refine lc_eq (ds := (allP ps).map .int) (by rw [← hd]; exact rg1 c0 (by omega)) (compL_gen D.int (rests ps) D.int _ fun v hv => ⟨_, rfl, rest_t h ?_ (vB rfl) (vB rfl), fun _ => vV rfl⟩) ?_
    · obtain ⟨i, hi, rfl⟩ := List.mem_map.mp hv
      have : i < ps.length := by simpa using hi
      omega
    · rw [List.length_map]
      refine nob_n (Nat.le_trans (List.length_filter_le _ _) ?_)
      rw [List.length_map, List.length_range]; omega
  show b_resting_runs [.va (ePa ps), .va (.int m), .no, .no] row0 = _
  unfold b_resting_runs
  rw [sSeq_nx (dropP h), sSeq_nx (dropN hm), sSeq_nx (sV l1)]
  exact sR (fK (aC3 (fK (aC1 (vV rfl)) (event_web_eq h)) (vV rfl) (vV rfl)) hr)
end Lw

namespace Lw
open PySem RT Wb
/-! marks of one shape: one of two is less -/
theorem kpy_ne {a b : L2.Key} (h : a.isLeft = b.isLeft) (hn : a ≠ b) : PyData.eqv (keyD a).py (keyD b).py = false := by
  cases a <;> cases b <;> simp_all [keyD, D.py, PyData.eqv]
theorem kpy_tot {a b : L2.Key} (h : a.isLeft = b.isLeft) (hn : a ≠ b) : PySem.W.dataLt (keyD a).py (keyD b).py = true ∨ PySem.W.dataLt (keyD b).py (keyD a).py = true := by
  cases h1 : PySem.W.dataLt (keyD a).py (keyD b).py with
  | true => exact Or.inl rfl
  | false =>
    cases h2 : PySem.W.dataLt (keyD b).py (keyD a).py with
    | true => exact Or.inr rfl
    | false =>
      have := PyProof.Rows.lex_total _ _ h1 h2
      exfalso
      cases a with
      | inl i =>
        cases b with
        | inl j => simp [keyD, D.py, PySem.W.keyToks] at this; exact hn (by rw [this])
        | inr s => simp at h
      | inr s =>
        cases b with
        | inl j => simp at h
        | inr t =>
          simp only [keyD, D.py, PySem.W.keyToks, List.cons.injEq, Sum.inr.injEq, and_true] at this
          exact hn (by rw [PySem.W.str_of_cps this])
theorem keys_no : ∀ {a b : Mk} (A B : List PyData), shp a = shp b → a ≠ b → PyProof.Rows.lexLt PyProof.Rows.itemOrd (PySem.W.keyToksAll (pyAll (a.map keyD) ++ A)) (PySem.W.keyToksAll (pyAll (b.map keyD) ++ B)) = PyProof.Rows.lexLt PyProof.Rows.itemOrd (PySem.W.keyToksAll (pyAll (a.map keyD))) (PySem.W.keyToksAll (pyAll (b.map keyD)))
  | [], [], _, _, _, hn => absurd rfl hn
  | x :: a, y :: b, A, B, h, hn => by
    simp only [shp, List.map_cons, List.cons.injEq] at h
    simp only [List.map_cons, pyAll, List.cons_append]
    have ea := key_alike h.1
    by_cases c : x = y
    · subst c
      have er := PySem.W.eqv_refl_alike _ ea
      rw [PySem.W.dataLt_all_yes ea er, PySem.W.dataLt_all_yes ea er]
      exact keys_no A B h.2 (fun e => hn (by rw [e]))
    · have en := kpy_ne h.1 c
      rw [PySem.W.dataLt_all_no ea en, PySem.W.dataLt_all_no ea en]
  | [], _ :: _, _, _, h, _ => by simp [shp] at h
  | _ :: _, [], _, _, h, _ => by simp [shp] at h
theorem keys_tot : ∀ {a b : Mk}, shp a = shp b → a ≠ b → (PyProof.Rows.lexLt PyProof.Rows.itemOrd (PySem.W.keyToksAll (pyAll (a.map keyD))) (PySem.W.keyToksAll (pyAll (b.map keyD))) = true ∨ PyProof.Rows.lexLt PyProof.Rows.itemOrd (PySem.W.keyToksAll (pyAll (b.map keyD))) (PySem.W.keyToksAll (pyAll (a.map keyD))) = true) ∧ PyData.eqvAll (pyAll (a.map keyD)) (pyAll (b.map keyD)) = false
  | [], [], _, hn => absurd rfl hn
  | x :: a, y :: b, h, hn => by
    simp only [shp, List.map_cons, List.cons.injEq] at h
    simp only [List.map_cons, pyAll]
    have ea := key_alike h.1
    have eb := key_alike h.1.symm
    by_cases c : x = y
    · subst c
      have er := PySem.W.eqv_refl_alike _ ea
      rw [PySem.W.dataLt_all_yes ea er, PySem.W.dataLt_all_yes ea er, PyData.eqvAll, er]
      have := keys_tot (a := a) (b := b) h.2 (fun e => hn (by rw [e]))
      exact ⟨this.1, by simpa using this.2⟩
    · have en := kpy_ne h.1 c
      have en' := kpy_ne h.1.symm (fun e => c e.symm)
      rw [PySem.W.dataLt_all_no ea en, PySem.W.dataLt_all_no eb en', PyData.eqvAll, en]
      exact ⟨kpy_tot h.1 c, rfl⟩
  | [], _ :: _, h, _ => by simp [shp] at h
  | _ :: _, [], h, _ => by simp [shp] at h
theorem mk_tot {a b : Mk} (h : shp a = shp b) (hn : a ≠ b) : mlt a b ∨ mlt b a := by
  have h1 := keys_tot h hn
  have h2 := keys_tot h.symm (fun e => hn e.symm)
  rcases h1.1 with c | c
  · left
    exact ⟨by simpa only [PySem.W.dataLt, mD, D.py, PySem.W.keyToks] using c, by simpa only [mD, D.py, PyData.eqv] using h1.2⟩
  · right
    exact ⟨by simpa only [PySem.W.dataLt, mD, D.py, PySem.W.keyToks] using c, by simpa only [mD, D.py, PyData.eqv] using h2.2⟩
theorem pyAll_app (a b : List D) : pyAll (a ++ b) = pyAll a ++ pyAll b := by
  induction a with
  | nil => rfl
  | cons x a ih => simp only [List.cons_append, pyAll, ih]
theorem eSt_lt {p q : Mk × Int} (h : shp p.1 = shp q.1) (hn : p.1 ≠ q.1) : PySem.W.dataLt (eSt p).py (eSt q).py = PySem.W.dataLt (mD p.1).py (mD q.1).py := by
  simp only [PySem.W.dataLt, eSt, mD, D.py, PySem.W.keyToks, pyAll_app]
  exact keys_no _ _ h hn
theorem mlt_asym {a b : Mk} (h : mlt a b) : PySem.W.dataLt (mD b).py (mD a).py = false := by
  cases c : PySem.W.dataLt (mD b).py (mD a).py with
  | false => rfl
  | true =>
    have := PyProof.Rows.lex_trans _ _ _ h.1 c
    rw [PyProof.Rows.lex_irrefl] at this; cases this
/-! drawn parts: what the dict of heads holds -/
def hdS (acc : List (Mk × Int)) : List (D × D) := acc.map fun p => (mD p.1, .int p.2)
def hasK (acc : List (Mk × Int)) (m : Mk) : Bool := acc.any fun p => decide (p.1 = m)
theorem hasK_iff (acc : List (Mk × Int)) (m : Mk) : hasK acc m = true ↔ m ∈ acc.map (·.1) := by
  unfold hasK
  rw [List.any_eq_true, List.mem_map]
  simp
def putA (acc : List (Mk × Int)) (m : Mk) (t : Int) : List (Mk × Int) := if hasK acc m = true then acc.map fun p => if p.1 = m then (m, t) else p else acc ++ [(m, t)]
theorem put_hdS (acc : List (Mk × Int)) (m : Mk) (t : Int) : putD dKeyT (hdS acc) (mD m) m (.int t) = hdS (putA acc m t) := by
  unfold putD putA
  have : ((hdS acc).any fun q => decide (dKeyT q.1 = some m)) = hasK acc m := by
    unfold hdS hasK
    rw [List.any_map]
    congr 1
    funext p
    simp [Function.comp, dKeyT_m]
  rw [this]
  by_cases c : hasK acc m = true
  · rw [if_pos c, if_pos c]
    unfold hdS
    rw [List.map_map, List.map_map]
    refine List.map_congr_left fun p _ => ?_
    simp only [Function.comp, dKeyT_m, Option.some.injEq]
    by_cases e : p.1 = m <;> simp [e]
  · rw [if_neg c, if_neg c]
    simp [hdS]
theorem putA_keys (acc : List (Mk × Int)) (m : Mk) (t : Int) : (putA acc m t).map (·.1) = if hasK acc m = true then acc.map (·.1) else acc.map (·.1) ++ [m] := by
  unfold putA
  split
  · rw [List.map_map]
    refine List.map_congr_left fun p _ => ?_
    simp only [Function.comp]
    by_cases e : p.1 = m <;> simp [e]
  · simp
theorem putA_mem {acc : List (Mk × Int)} {m : Mk} {t : Int} {p : Mk × Int} (h : p ∈ putA acc m t) : p ∈ acc ∨ p = (m, t) := by
  unfold putA at h
  split at h
  · obtain ⟨q, hq, e⟩ := List.mem_map.mp h
    by_cases c : q.1 = m
    · rw [if_pos c] at e; exact Or.inr e.symm
    · rw [if_neg c] at e; exact Or.inl (e ▸ hq)
  · rcases List.mem_append.mp h with h | h
    · exact Or.inl h
    · exact Or.inr (by simpa using h)
theorem putA_len (acc : List (Mk × Int)) (m : Mk) (t : Int) : (putA acc m t).length ≤ acc.length + 1 := by
  unfold putA; split <;> simp
theorem putA_nd {acc : List (Mk × Int)} (h : (acc.map (·.1)).Nodup) (m : Mk) (t : Int) : ((putA acc m t).map (·.1)).Nodup := by
  rw [putA_keys]
  split
  · exact h
  · rename_i c
    rw [List.nodup_append]
    exact ⟨h, by simp, fun a ha b hb e => c ((hasK_iff acc m).mpr (by rw [List.mem_singleton] at hb; rw [← hb, ← e]; exact ha))⟩
/-- an event as the law draws it -/
def evDr (m : Mk) : Prop := ∃ k o w, m = [.inr k, .inl o, .inl w] ∧ (k = hearS ∨ k = sayS) ∧ (o = 1 ∨ o = 2) ∧ (w = 0 ∨ w = 1)
theorem evDr.ok {m : Mk} (h : evDr m) : evOk m := by
  obtain ⟨k, o, w, rfl, hk, ho, hw⟩ := h
  exact ⟨k, o, w, rfl, hk, by omega, by omega⟩
structure AccOk (m : Nat) (acc : List (Mk × Int)) : Prop where
  nd : (acc.map (·.1)).Nodup
  e : ∀ p ∈ acc, evDr p.1
  t : ∀ p ∈ acc, 0 ≤ p.2 ∧ p.2 < (m : Int)
theorem AccOk.put {m : Nat} {acc : List (Mk × Int)} (h : AccOk m acc) {k : Mk} {t : Int} (hk : evDr k) (ht : 0 ≤ t ∧ t < (m : Int)) : AccOk m (putA acc k t) where
  nd := putA_nd h.nd k t
  e := fun p hp => by
    rcases putA_mem hp with hp | rfl
    · exact h.e p hp
    · exact hk
  t := fun p hp => by
    rcases putA_mem hp with hp | rfl
    · exact h.t p hp
    · exact ht
theorem val_hdS (acc : List (Mk × Int)) (m : Mk) : valD dKeyT (hdS acc) m = (acc.find? fun p => decide (p.1 = m)).map fun p => .int p.2 := val_st acc m
theorem eSt_cat {p : Mk × Int} (h : evOk p.1) : gAdd (mD p.1) (.tuple [.int p.2]) = some (eSt p) := by
  have : (p.1.map keyD).length + 1 ≤ maxLen := by rw [List.length_map, h.len]; exact ml 4 (by omega)
  simp only [gAdd, gOr, gI, mD, gCatT, List.length_singleton, if_pos this, eSt]
theorem pt_eSt {p : Mk × Int} (h : evOk p.1) : Pt 1 (eSt p) := Or.inr ⟨p.1.map keyD ++ [.int p.2], Or.inl rfl, by rw [List.length_append, List.length_map, h.len, List.length_singleton]; omega, by
  intro e he
  rcases List.mem_append.mp he with he | he
  · obtain ⟨k, hk, rfl⟩ := List.mem_map.mp he
    exact pt_key (h.mok.2 k hk)
  · rw [List.mem_singleton] at he; subst he; exact Or.inr (Or.inl ⟨_, rfl⟩)⟩
theorem eSt_alike {p q : Mk × Int} (h : shp p.1 = shp q.1) : PySem.W.alike (eSt p).py (eSt q).py = true := by
  have : ∀ {a b : Mk}, shp a = shp b → ∀ i j : Int, PySem.W.alikeAll (pyAll (a.map keyD ++ [.int i])) (pyAll (b.map keyD ++ [.int j])) = true := by
    intro a
    induction a with
    | nil => intro b h i j; cases b with
      | nil => simp [pyAll, PySem.W.alikeAll, D.py, PySem.W.alike]
      | cons _ _ => simp [shp] at h
    | cons x a ih => intro b h i j; cases b with
      | nil => simp [shp] at h
      | cons y b =>
        simp only [shp, List.map_cons, List.cons.injEq] at h
        simp only [List.map_cons, List.cons_append, pyAll, PySem.W.alikeAll, key_alike h.1, Bool.true_and]
        exact ih h.2 i j
  simp only [eSt, D.py, PySem.W.alike, this h]
/-- sorted of the drawn steps -/
theorem sort_steps {m : Nat} {acc : List (Mk × Int)} (h : AccOk m acc) (hl : acc.length ≤ 2) : ∃ st : List (Mk × Int), gSortX [.list (acc.map eSt)] = some (.list (st.map eSt)) ∧ st.length = acc.length ∧ (∀ p ∈ st, p ∈ acc) ∧ st.Pairwise fun p q => mlt p.1 q.1 := by
  match acc, h, hl with
  | [], _, _ => exact ⟨[], rfl, rfl, by simp, by simp⟩
  | [a], h, _ =>
    refine ⟨[a], ?_, rfl, by simp, by simp⟩
    obtain ⟨k, o, w, e, _⟩ := h.e a (by simp)
    have : gSort [.list [eSt a]] = none := by
      rw [eSt, e]
      exact sort_none rfl
    simp only [List.map_cons, List.map_nil, gSortX, cOr, this, gSort1, List.length_singleton, Nat.le_refl, if_true]
  | [a, b], h, _ =>
    have ha := (h.e a (by simp)).ok
    have hb := (h.e b (by simp)).ok
    have hsh : shp a.1 = shp b.1 := ha.mok.1.trans hb.mok.1.symm
    have hne : a.1 ≠ b.1 := by
      have := h.nd
      simp only [List.map_cons, List.map_nil, List.nodup_cons, List.mem_singleton] at this
      exact this.1
    have hd : gSortD [.list [eSt a, eSt b]] = some (.list ([eSt a, eSt b].mergeSort leD)) := by
      have s1 : shapedD (.list [eSt a, eSt b]) = true := (pt_list (k := 1) (by simp) (by
        intro d hd
        rcases List.mem_cons.mp hd with rfl | hd
        · exact pt_eSt ha
        · rw [List.mem_singleton] at hd; subst hd; exact pt_eSt hb)).sh (by omega)
      have s2 : sortableB [eSt a, eSt b] = true := by
        obtain ⟨k, o, w, e, _⟩ := ha
        obtain ⟨k', o', w', e', _⟩ := hb
        simp [sortableB, eSt, e, e']
      have s3 : alikeB ([a, b].map eSt) = true := alikeB_of fun p hp q hq => eSt_alike (by
        have e1 : ∀ z ∈ [a, b], shp z.1 = S4 := fun z hz => by
          rcases List.mem_cons.mp hz with rfl | hz
          · exact ha.mok.1
          · rw [List.mem_singleton] at hz; subst hz; exact hb.mok.1
        exact (e1 p hp).trans (e1 q hq).symm)
      have s4 : decide ([eSt a, eSt b].length ≤ maxLen) = true := decide_eq_true two_ml
      simp only [gSortD, s1, s2, s4, show alikeB [eSt a, eSt b] = true from s3, Bool.and_self, if_true]
    have hn : gSort [.list [eSt a, eSt b]] = none := by
      obtain ⟨k, o, w, e, _⟩ := ha
      rw [eSt, e]
      exact sort_none rfl
    have hX : gSortX [.list [eSt a, eSt b]] = some (.list ([eSt a, eSt b].mergeSort leD)) := by
      simp only [gSortX, cOr, hn, gSort1, List.length_cons, List.length_nil, hd]
      rfl
    have l1 := eSt_lt hsh hne
    have l2 := eSt_lt (p := b) (q := a) hsh.symm (fun e => hne e.symm)
    rcases mk_tot hsh hne with c | c
    · refine ⟨[a, b], ?_, rfl, by simp, by simpa using c⟩
      have hle : leD (eSt a) (eSt b) = true := by unfold leD; rw [l2, mlt_asym c]; rfl
      rw [List.map_cons, List.map_cons, List.map_nil, hX]
      rw [List.mergeSort_of_pairwise (by simpa using hle)]
    · refine ⟨[b, a], ?_, rfl, by simp, by simpa using c⟩
      have hle : leD (eSt b) (eSt a) = true := by unfold leD; rw [l1, mlt_asym c]; rfl
      have hle' : leD (eSt a) (eSt b) = false := by unfold leD; rw [l2, c.1]; rfl
      rw [List.map_cons, List.map_cons, List.map_nil, hX]
      congr 2
      simp [List.mergeSort, List.MergeSort.Internal.splitInTwo, List.merge, hle']
end Lw

namespace Lw
open PySem RT Wb
theorem forL_rgR {gt : FGt} {b : FS} (n : Nat) (E : Nat → FEn → FRow → Prop) (env : FEn) (x : FRow) (r : E 0 env x) (h : ∀ i, i < n → ∀ env x, E i env x → ∃ e e2 x2, gt (.int (i : Nat)) env = some e ∧ b e x = some (.nx e2, x2) ∧ E (i + 1) e2 x2) :
    ∃ e x', forL gt b (rgD 0 n) env x = some (.nx e, x') ∧ E n e x' := by
  rw [rgD_map]
  have aux : ∀ (m k : Nat), k + m = n → ∀ env x, E k env x → ∃ e x', forL gt b (((List.range n).drop k).map fun (i : Nat) => D.int (i : Int)) env x = some (.nx e, x') ∧ E n e x' := by
    intro m
    induction m with
    | zero =>
      intro k hk env x r
      have : k = n := by omega
      subst this
      exact ⟨env, x, by rw [List.drop_eq_nil_of_le (by simp)]; rfl, r⟩
    | succ m ih =>
      intro k hk env x r
      obtain ⟨e, e2, x2, h1, h2, h3⟩ := h k (by omega) env x r
      obtain ⟨e3, x', h4, h5⟩ := ih (k + 1) (by omega) e2 x2 h3
      refine ⟨e3, x', ?_, h5⟩
      rw [List.drop_eq_getElem_cons (by simp; omega), List.map_cons, List.getElem_range, forL, h1]
      simp only [h2]
      exact h4
  exact aux n 0 (by omega) env x r
theorem compL_rowG {α : Type} (enc : α → D) {gt : FGt} {t : FT} {fe : FE} {env : FEn} (Good : α → Prop) : ∀ (l : List D), (∀ d ∈ l, ∀ x : FRow, 0 ≤ x.a → ∃ e a x', gt d env = some e ∧ t e x = some (true, x) ∧ fe e x = some (enc a, x') ∧ 0 ≤ x'.a ∧ Good a) → ∀ x : FRow, 0 ≤ x.a → ∃ (as : List α) (x' : FRow), compL gt t fe env l x = some (as.map enc, x') ∧ 0 ≤ x'.a ∧ as.length = l.length ∧ ∀ a ∈ as, Good a
  | [], _, x, hx => ⟨[], x, rfl, hx, rfl, by simp⟩
  | d :: l, h, x, hx => by
    obtain ⟨e, a, x1, h1, h2, h3, h4, h5⟩ := h d (by simp) x hx
    obtain ⟨as, x2, g1, g2, g3, g4⟩ := compL_rowG enc Good l (fun b hb => h b (by simp [hb])) x1 h4
    refine ⟨a :: as, x2, by simp [compL, h1, h2, h3, g1], g2, by simp [g3], ?_⟩
    intro z hz
    rcases List.mem_cons.mp hz with rfl | hz
    · exact h5
    · exact g4 z hz
abbrev PickE : FE := fCallR 0 m_law_pick (aCons (fLst (aCons (fC (.str (Str.ofString "hear"))) (aCons (fC (.str (Str.ofString "say"))) aNil))) aNil)
theorem pick_k {env : FEn} (h0 : env[0]? = some .rw) {x : FRow} (hx : 0 ≤ x.a) : ∃ k x', PickE env x = some (.str k, x') ∧ (k = hearS ∨ k = sayS) ∧ 0 ≤ x'.a := by
  obtain ⟨d, x', hd, hp, hx'⟩ := pick_ok (l := [.str hearS, .str sayS]) (by simp) (by simp) hx
  have q := fCallR_eq (i := 0) (env := env) (x := x) h0 (aCons1 (fLst_ok (aC2 (fa := fC (.str hearS)) (fb := fC (.str sayS)) rfl rfl) two_ml)) hp
  simp only [List.mem_cons, List.not_mem_nil, or_false] at hd
  rcases hd with rfl | rfl
  · exact ⟨hearS, x', q, Or.inl rfl, hx'⟩
  · exact ⟨sayS, x', q, Or.inr rfl, hx'⟩
theorem takE {env : FEn} {i : Nat} (h0 : env[i]? = some .rw) {x : FRow} (hx : 0 ≤ x.a) {f : FE} {many : Int} (hf : f env x = some (.int many, x)) (h1 : 0 < many) (h2 : many < 1073741824) : ∃ r x', fCallR i m_law_taken (aCons f aNil) env x = some (.int r, x') ∧ (0 ≤ r ∧ r < many) ∧ 0 ≤ x'.a := by
  obtain ⟨r, x', e, a, b, c⟩ := taken_ok (many := many) hx h1 h2
  exact ⟨r, x', fCallR_eq h0 (aCons1 hf) e, ⟨a, b⟩, c⟩
def sE (size : Int) (pl : Bool) (k : Str) (acc : List (Mk × Int)) (p5 : FSl) : FEn := [.rw, .va (.int size), .va (.bool pl), .va (.str k), .ow (.dt (hdS acc)), p5, .no, .no]
abbrev sTurn : FS := sSeq (sSet 3 (xVal (fIf (fTru (fBor 2)) (fVar 3) PickE)))
    (sDPut 4 (fTup (aCons (fVar 3) (aCons (fBin gAdd (fC (.int 1)) (fCallR 0 m_law_taken (aCons (fC (.int 2)) aNil))) (aCons (fCallR 0 m_law_taken (aCons (fC (.int 2)) aNil)) aNil)))) (fCallR 0 m_law_taken (aCons (fVar 1) aNil)))
theorem s_turn {size : Nat} (hz : 1 ≤ size ∧ size ≤ 100) {pl : Bool} {k : Str} (hk : k = hearS ∨ k = sayS) {acc : List (Mk × Int)} (ha : AccOk size acc) (hl : acc.length ≤ 100) (p5 : FSl) {x : FRow} (hx : 0 ≤ x.a) :
    ∃ k' acc' x', sTurn (sE size pl k acc p5) x = some (.nx (sE size pl k' acc' p5), x') ∧ (k' = hearS ∨ k' = sayS) ∧ AccOk size acc' ∧ acc'.length ≤ acc.length + 1 ∧ 0 ≤ x'.a := by
  have hk1 : ∃ k1 x1, fIf (fTru (fBor 2)) (fVar 3) PickE (sE size pl k acc p5) x = some (.str k1, x1) ∧ (k1 = hearS ∨ k1 = sayS) ∧ 0 ≤ x1.a := by
    have t : fTru (fBor 2) (sE size pl k acc p5) x = some (pl, x) := rfl
    cases pl with
    | true => exact ⟨k, x, by simp only [fIf, t]; rfl, hk, hx⟩
    | false =>
      obtain ⟨k1, x1, e, h1, h2⟩ := pick_k (env := sE size false k acc p5) rfl hx
      exact ⟨k1, x1, by simp only [fIf, t]; exact e, h1, h2⟩
  obtain ⟨k1, x1, e1, hk1, hx1⟩ := hk1
  have c1 : sSet 3 (xVal (fIf (fTru (fBor 2)) (fVar 3) PickE)) (sE size pl k acc p5) x = some (.nx (sE size pl k1 acc p5), x1) := sSet_va e1
  obtain ⟨t, x2, e2, ht, hx2⟩ := takE (env := sE size pl k1 acc p5) (i := 0) rfl hx1 (f := fVar 1) (many := size) rfl (by omega) (by omega)
  obtain ⟨o, x3, e3, ho, hx3⟩ := takE (env := sE size pl k1 acc p5) (i := 0) rfl hx2 (f := fC (.int 2)) (many := 2) rfl (by omega) (by omega)
  obtain ⟨w, x4, e4, hw, hx4⟩ := takE (env := sE size pl k1 acc p5) (i := 0) rfl hx3 (f := fC (.int 2)) (many := 2) rfl (by omega) (by omega)
  have e5 : fBin gAdd (fC (.int 1)) (fCallR 0 m_law_taken (aCons (fC (.int 2)) aNil)) (sE size pl k1 acc p5) x2 = some (.int (1 + o), x3) := fBin_eq rfl e3 rfl
  have e6 : fTup (aCons (fVar 3) (aCons (fBin gAdd (fC (.int 1)) (fCallR 0 m_law_taken (aCons (fC (.int 2)) aNil))) (aCons (fCallR 0 m_law_taken (aCons (fC (.int 2)) aNil)) aNil))) (sE size pl k1 acc p5) x2 = some (mD [.inr k1, .inl (1 + o), .inl w], x4) :=
    fTup_ok (aCons_eq (f := fVar 3) (d := .str k1) rfl (aCons_eq e5 (aCons1 e4))) tri_ml
  have hlt : (hdS acc).length < maxLen := by rw [hdS, List.length_map]; exact nob_n (by omega)
  have c2 : sDPut 4 (fTup (aCons (fVar 3) (aCons (fBin gAdd (fC (.int 1)) (fCallR 0 m_law_taken (aCons (fC (.int 2)) aNil))) (aCons (fCallR 0 m_law_taken (aCons (fC (.int 2)) aNil)) aNil)))) (fCallR 0 m_law_taken (aCons (fVar 1) aNil)) (sE size pl k1 acc p5) x1 = some (.nx (sE size pl k1 (putA acc [.inr k1, .inl (1 + o), .inl w] t) p5), x4) := by
    have e4 : (sE size pl k1 acc p5)[4]? = some (.ow (.dt (hdS acc))) := rfl
    simp only [sDPut, e2, e6, e4, dKeyT_m, if_pos hlt, put_hdS]
    rfl
  refine ⟨k1, _, x4, by delta sTurn; rw [sSeq_nx c1, c2], hk1, ha.put ⟨k1, 1 + o, w, rfl, hk1, by omega, by omega⟩ ht, putA_len _ _ _, hx4⟩
theorem empty_eq {l : List (Mk × Int)} (hl : l.length ≤ 1000) (he : ∀ p ∈ l, evOk p.1) : gEq (.tuple (l.map eSt)) (.tuple []) = some (.bool l.isEmpty) := by
  have h1 : shapedD (.tuple (l.map eSt)) = true := Pt.sh (k := 2) (Or.inr ⟨_, Or.inl rfl, by rw [List.length_map]; exact hl, by
    intro d hd
    obtain ⟨p, hp, rfl⟩ := List.mem_map.mp hd
    exact pt_eSt (he p hp)⟩) (by omega)
  have h2 : shapedD (.tuple []) = true := Pt.sh (k := 1) (Or.inr ⟨[], Or.inl rfl, by simp, by simp⟩) (by omega)
  simp only [gEq, h1, h2, Bool.and_self, if_true]
  cases l <;> simp [eqD, D.py, pyAll, PyData.eqv, PyData.eqvAll]
theorem eq_str {s t : Str} (hs : PyData.strOk s = true) (ht : PyData.strOk t = true) : gEq (.str s) (.str t) = some (.bool (decide (s = t))) := by
  have h1 : shapedD (.str s) = true := Pt.sh (k := 0) (Or.inr (Or.inr (Or.inl ⟨s, rfl, hs⟩))) (by omega)
  have h2 : shapedD (.str t) = true := Pt.sh (k := 0) (Or.inr (Or.inr (Or.inl ⟨t, rfl, ht⟩))) (by omega)
  simp [gEq, h1, h2, eqD, D.py, PyData.eqv]
  by_cases c : s = t <;> simp [c]
structure StDr (m : Nat) (s : StT) : Prop extends StOk m s where
  d : ∀ p ∈ s.2, evDr p.1
theorem state_ok {size : Nat} (hz : 1 ≤ size ∧ size ≤ 100) {pl : Bool} {x : FRow} (hx : 0 ≤ x.a) : ∃ s x', m_law_state [.int size, .bool pl] x = some (eSta s, x') ∧ 0 ≤ x'.a ∧ StDr size s := by
  obtain ⟨k, x1, e1, hk, hx1⟩ := pick_k (env := [.rw, .va (.int size), .va (.bool pl), .no, .no, .no, .no, .no]) rfl hx
  have c1 : sPars [3, 4] (xsCons (xVal PickE) (xsCons (xNew (.dt [])) xsNil)) [.rw, .va (.int size), .va (.bool pl), .no, .no, .no, .no, .no] x = some (.nx (sE size pl k [] .no), x1) := by
    have q : xsCons (xVal PickE) (xsCons (xNew (.dt [])) xsNil) [.rw, .va (.int size), .va (.bool pl), .no, .no, .no, .no, .no] x = some ([.va (.str k), .ow (.dt [])], x1) := by
      simp only [xsCons, xVal, e1, xNew, xsNil]
    simp only [sPars, q, List.length_cons, List.length_nil, if_true]
    rfl
  obtain ⟨t, x2, e2, ht, hx2⟩ := takE (env := sE size pl k [] .no) (i := 0) rfl hx1 (f := fC (.int 3)) (many := 3) rfl (by omega) (by omega)
  obtain ⟨tn, rfl⟩ : ∃ tn : Nat, t = (tn : Int) := ⟨t.toNat, by omega⟩
  have f2 : fRg1 (fCallR 0 m_law_taken (aCons (fC (.int 3)) aNil)) (sE size pl k [] .no) x1 = some (rgD 0 tn, x2) := by
    simp only [fRg1, e2, rg_ok (n := tn) (by omega), if_true, Int.toNat_natCast]
  obtain ⟨_, x3, e3, k3, acc, p5, rfl, hk3, hacc, hlen, hx3⟩ := forL_rgR (gt := gtName 5) (b := sTurn) tn (fun i env x => ∃ k acc p5, env = sE size pl k acc p5 ∧ (k = hearS ∨ k = sayS) ∧ AccOk size acc ∧ acc.length ≤ i ∧ 0 ≤ x.a) (sE size pl k [] .no) x2 ⟨k, [], .no, rfl, hk, ⟨by simp, by simp, by simp⟩, by simp, hx2⟩ (by
    rintro i hi _ x ⟨k, acc, p5, rfl, hk, ha, hl, hx⟩
    obtain ⟨k', acc', x', e, h1, h2, h3, h4⟩ := s_turn (size := size) hz (pl := pl) hk ha (by omega) (.va (.int i)) hx
    exact ⟨_, _, x', rfl, e, k', acc', _, rfl, h1, h2, by omega, h4⟩)
  have c2 := for_eq f2 e3
  have hevo : ∀ p ∈ acc, evOk p.1 := fun p hp => (hacc.e p hp).ok
  have l1 : fOfX (xLc (fSeq (fCall gListOf (aCons (fBor 4) aNil))) (gtName 7) tYesF (fBin gAdd (fBor 7) (fTup (aCons (fBin gAt (fBor 4) (fBor 7)) aNil))) [7]) (sE size pl k3 acc p5) x3 = some (.list (acc.map eSt), x3) := by
    have q0 : fSeq (fCall gListOf (aCons (fBor 4) aNil)) (sE size pl k3 acc p5) x3 = some (acc.map fun p => mD p.1, x3) := by
      refine sqL (fK (aC1 (d := .dictT (hdS acc)) rfl) ?_)
      simp only [gListOf, hdS, List.map_map]; rfl
    refine lc_eq q0 (compL_map (fun p : Mk × Int => mD p.1) eSt acc fun p hp => ⟨_, rfl, rfl, ?_⟩) (by rw [List.length_map]; exact nob_n (by omega))
    have gv : gAt (.dictT (hdS acc)) (mD p.1) = some (.int p.2) := by
      simp only [gAt, gDAt, gDGet, dKeyT_m, val_hdS, find_nd hacc.nd hp, Option.map_some]
    exact fB (vB rfl) (fTup_ok (aC1 (fB (d := .dictT (hdS acc)) rfl (vB rfl) gv)) one_ml) (eSt_cat (hevo p hp))
  obtain ⟨st, s1, s2, s3, s4⟩ := sort_steps hacc (by omega)
  have c3 := sV (i := 6) (tupOf_ok (fK (aC1 l1) s1))
  generalize hE : (sE size pl k3 acc p5).set 6 (.va (.tuple (st.map eSt))) = E at c3
  have E0 : E[0]? = some .rw := by rw [← hE]; rfl
  have E2 : E[2]? = some (.va (.bool pl)) := by rw [← hE]; rfl
  have E3 : E[3]? = some (.va (.str k3)) := by rw [← hE]; rfl
  have E6 : E[6]? = some (.va (.tuple (st.map eSt))) := by rw [← hE]; rfl
  have hev : ∀ p ∈ st, evOk p.1 := fun p hp => hevo p (s3 p hp)
  have good : ∀ b : Bool, StDr size (b, st) := fun b => ⟨⟨by show st.length ≤ 2; omega, hev, fun p hp => hacc.t p (s3 p hp), s4⟩, fun p hp => hacc.e p (s3 p hp)⟩
  have t4 : fTst (fBin gEq (fBor 6) (fTup aNil)) E x3 = some (st.isEmpty, x3) := by
    have := fB (x := x3) (vB E6) (fTup_ok (show aNil E x3 = some ([], x3) from rfl) nil_ml) (empty_eq (by omega) hev)
    simp only [fTst, this]
  have wrap : ∀ {s : StT} {y : FRow}, b_law_state [.rw, .va (.int size), .va (.bool pl), .no, .no, .no, .no, .no] x = some (.rt (eSta s), y) → m_law_state [.int size, .bool pl] x = some (eSta s, y) := fun {s y} h => by
    show mkR 7 2 b_law_state _ x = _
    simp only [mkR, List.length_cons, List.length_nil, if_true]
    rw [show FSl.rw :: startE 7 [D.int size, .bool pl] = [.rw, .va (.int size), .va (.bool pl), .no, .no, .no, .no, .no] from rfl, h]
  cases hs : st.isEmpty with
  | true =>
    rw [hs] at t4
    obtain ⟨r, x4, e4, hr, hx4⟩ := takE (env := E) (i := 0) E0 hx3 (f := fC (.int 2)) (many := 2) rfl (by omega) (by omega)
    have q : ∃ b y, fOr (fVar 2) (fBin gEq (fCallR 0 m_law_taken (aCons (fC (.int 2)) aNil)) (fC (.int 0))) E x3 = some (.bool b, y) ∧ 0 ≤ y.a := by
      have v2 : fVar 2 E x3 = some (.bool pl, x3) := vV E2
      cases pl with
      | true => exact ⟨true, x3, by simp only [fOr, v2], hx3⟩
      | false => exact ⟨decide (r = 0), x4, by simp only [fOr, v2]; exact fBin_eq e4 rfl (eq_int r 0), hx4⟩
    obtain ⟨b, y, e5, hy⟩ := q
    refine ⟨(b, st), y, wrap ?_, hy, good b⟩
    have v6 : fVar 6 E y = some (.tuple (st.map eSt), y) := vV E6
    have c5 := fTup_ok (aCons2 e5 v6) two_ml
    unfold b_law_state
    rw [sSeq_nx c1, sSeq_nx c2, sSeq_nx c3]
    simp only [sSeq, sIf, t4, sRet, c5]
    rfl
  | false =>
    rw [hs] at t4
    have q : ∃ b y, fIf (fTru (fBor 2)) (fAnd (fBin gEq (fBor 3) (fC (.str (Str.ofString "hear")))) (fBin gEq (fCallR 0 m_law_taken (aCons (fC (.int 3)) aNil)) (fC (.int 0)))) (fBin gEq (fCallR 0 m_law_taken (aCons (fC (.int 3)) aNil)) (fC (.int 0))) E x3 = some (.bool b, y) ∧ 0 ≤ y.a := by
      obtain ⟨r, x4, e4, hr, hx4⟩ := takE (env := E) (i := 0) E0 hx3 (f := fC (.int 3)) (many := 3) rfl (by omega) (by omega)
      have q3 : fBin gEq (fCallR 0 m_law_taken (aCons (fC (.int 3)) aNil)) (fC (.int 0)) E x3 = some (.bool (decide (r = 0)), x4) := fBin_eq e4 rfl (eq_int r 0)
      have t2 : fTru (fBor 2) E x3 = some (pl, x3) := by simp only [fTru, vB (x := x3) E2, truD]
      have q2 := fB (x := x3) (vB E3) (show fC (.str (Str.ofString "hear")) E x3 = some (.str hearS, x3) from rfl) (eq_str (str_ok hk3) (str_ok (Or.inl rfl)))
      cases pl with
      | false => exact ⟨decide (r = 0), x4, by simp only [fIf, t2]; exact q3, hx4⟩
      | true =>
        cases hd : decide (k3 = hearS) with
        | false => rw [hd] at q2; exact ⟨false, x3, by simp only [fIf, t2, fAnd, q2], hx3⟩
        | true => rw [hd] at q2; exact ⟨decide (r = 0), x4, by simp only [fIf, t2, fAnd, q2]; exact q3, hx4⟩
    obtain ⟨b, y, e5, hy⟩ := q
    refine ⟨(b, st), y, wrap ?_, hy, good b⟩
    have v6 : fVar 6 E y = some (.tuple (st.map eSt), y) := vV E6
    have c5 := fTup_ok (aCons2 e5 v6) two_ml
    have c4 : sIf (fTst (fBin gEq (fBor 6) (fTup aNil))) (sRet (fTup (aCons (fOr (fVar 2) (fBin gEq (fCallR 0 m_law_taken (aCons (fC (.int 2)) aNil)) (fC (.int 0)))) (aCons (fVar 6) aNil)))) sNil E x3 = some (.nx E, x3) := by
      simp only [sIf, t4, sNil]
    unfold b_law_state
    rw [sSeq_nx c1, sSeq_nx c2, sSeq_nx c3, sSeq_nx c4]
    simp only [sRet, c5]
    rfl
theorem part_ok {most : Int} (hm : 1 ≤ most ∧ most ≤ 5) {pl : Bool} {x : FRow} (hx : 0 ≤ x.a) : ∃ ps x', m_law_part [.int most, .bool pl] x = some (ePa ps, x') ∧ 0 ≤ x'.a ∧ POk ps ∧ (ps.length : Int) ≤ most ∧ ∀ s ∈ ps, ∀ p ∈ s.2, evDr p.1 := by
  obtain ⟨r, x1, e1, hr, hx1⟩ := takE (env := [.rw, .va (.int most), .va (.bool pl), .no, .no]) (i := 0) rfl hx (f := fVar 1) (many := most) rfl (by omega) (by omega)
  obtain ⟨size, hsz⟩ : ∃ size : Nat, 1 + r = (size : Int) := ⟨(1 + r).toNat, by omega⟩
  have hz : 1 ≤ size ∧ size ≤ 5 := by omega
  have c1 : sSet 3 (xVal (fBin gAdd (fC (.int 1)) (fCallR 0 m_law_taken (aCons (fVar 1) aNil)))) [.rw, .va (.int most), .va (.bool pl), .no, .no] x = some (.nx [.rw, .va (.int most), .va (.bool pl), .va (.int size), .no], x1) :=
    sSet_va (fBin_eq rfl e1 (by rw [← hsz]; rfl))
  obtain ⟨ps, x2, g1, g2, g3, g4⟩ := compL_rowG eSta (gt := gtName 4) (t := tYesF) (fe := fCallR 0 m_law_state (aCons (fVar 3) (aCons (fVar 2) aNil))) (env := [.rw, .va (.int most), .va (.bool pl), .va (.int size), .no]) (fun s => StDr size s) (rgD 0 size) (by
    intro d hd x hx
    rw [rgD_map] at hd
    obtain ⟨i, hi, rfl⟩ := List.mem_map.mp hd
    obtain ⟨s, x', e, h1, h2⟩ := state_ok (size := size) (by omega) (pl := pl) hx
    exact ⟨_, s, x', rfl, rfl, fCallR_eq rfl (aCons2 rfl rfl) e, h1, h2⟩) x1 hx1
  have hlen : ps.length = size := by rw [g3, rgD_len]
  have l1 : fOfX (xLc (fRg1 (fVar 3)) (gtName 4) tYesF (fCallR 0 m_law_state (aCons (fVar 3) (aCons (fVar 2) aNil))) [4]) [.rw, .va (.int most), .va (.bool pl), .va (.int size), .no] x1 = some (.list (ps.map eSta), x2) := by
    have hrg : fRg1 (fVar 3) [.rw, .va (.int most), .va (.bool pl), .va (.int size), .no] x1 = some (rgD 0 size, x1) := rg1 rfl (by omega)
    have hlt : (ps.map eSta).length < maxLen := by rw [List.length_map]; exact nob_n (by omega)
    rw [fOfX, xLc, hrg]
    simp only
    rw [show wipeE [FSl.rw, .va (.int most), .va (.bool pl), .va (.int size), .no] [4] = [.rw, .va (.int most), .va (.bool pl), .va (.int size), .no] from rfl, g1]
    simp only [if_pos hlt, OwD.d]
  refine ⟨ps, x2, ?_, g2, ⟨by omega, fun s hs => by rw [hlen]; exact (g4 s hs).toStOk⟩, by omega, fun s hs => (g4 s hs).d⟩
  have c3 : b_law_part [.rw, .va (.int most), .va (.bool pl), .no, .no] x = some (.rt (ePa ps), x2) := by
    unfold b_law_part
    rw [sSeq_nx c1, sRet, tupOf_ok l1]
    rfl
  show mkR 4 2 b_law_part _ x = _
  simp only [mkR, List.length_cons, List.length_nil, if_true]
  rw [show FSl.rw :: startE 4 [D.int most, .bool pl] = [.rw, .va (.int most), .va (.bool pl), .no, .no] from rfl, c3]
end Lw

namespace Lw
open PySem RT Wb
variable {ps : List StT}
theorem rep_eq (t : Int) (c : Bool) : gMul (.list [.int t]) (.int (if (!c) then 1 else 0)) = some (il (if c then [] else [t])) := by
  cases c <;> rfl
theorem cat_il (O T : List Int) (h : O.length + T.length ≤ maxLen) : gAdd (il O) (il T) = some (il (O ++ T)) := by
  have h' : (O.map D.int).length + (T.map D.int).length ≤ maxLen := by rw [List.length_map, List.length_map]; exact h
  simp only [gAdd, gOr, gI, gCatT, gCatL, il, if_pos h', List.map_append]
theorem idxD_int (t : Int) : ∀ O : List Int, t ∈ O → idxD (.int t) (O.map .int) = some (O.idxOf t)
  | [], h => by simp at h
  | a :: O, h => by
    by_cases c : a = t
    · subst c
      simp [idxD, eqD, D.py, PyData.eqv]
    · have ht : t ∈ O := by
        rcases List.mem_cons.mp h with h | h
        · exact absurd h.symm c
        · exact h
      have hbe : (a == t) = false := by simp [c]
      have ih := idxD_int t O ht
      simp [idxD, eqD, D.py, PyData.eqv, hbe, ih, List.idxOf_cons]
theorem steps_of (h : POk ps) {v : Int} (hv : 0 ≤ v ∧ v < (ps.length : Int)) {f g : FE} {env : FEn} {x : FRow} (hf : f env x = some (ePa ps, x)) (hg : g env x = some (.int v, x)) : fBin gAt (fBin gAt f g) (fC (.int 1)) env x = some (.tuple ((staAt ps v).2.map eSt), x) := fB (fB hf hg (ePa_at hv.1 hv.2)) rfl (eSta_1 _)
theorem sta_in (h : POk ps) {v : Int} (hv : 0 ≤ v ∧ v < (ps.length : Int)) : StOk ps.length (staAt ps v) := h.s _ (staAt_mem hv.1 hv.2).2
end Lw

namespace Lw
open PySem RT Wb
/-! what a part does from a state on -/
def run (ps : List StT) (v : Int) (r : List Mk) : Option Bool := (go (wP ps) v r).map (rests ps)
def Same (ps : List StT) (v : Int) (qs : List StT) (u : Int) : Prop := ∀ r, run ps v r = run qs u r
theorem Same.refl (ps : List StT) (v : Int) : Same ps v ps v := fun _ => rfl
theorem Same.symm {ps qs : List StT} {v u : Int} (h : Same ps v qs u) : Same qs u ps v := fun r => (h r).symm
theorem Same.trans {ps qs ts : List StT} {v u w : Int} (h : Same ps v qs u) (h' : Same qs u ts w) : Same ps v ts w := fun r => (h r).trans (h' r)
theorem run_nil (ps : List StT) (v : Int) : run ps v [] = some (rests ps v) := rfl
theorem run_cons (ps : List StT) (v : Int) (m : Mk) (r : List Mk) : run ps v (m :: r) = match (staAt ps v).2.find? (fun p => decide (p.1 = m)) with
    | some p => run ps p.2 r
    | none => none := by
  unfold run
  rw [go, stp_wP]
  cases (staAt ps v).2.find? fun p => decide (p.1 = m) <;> rfl
abbrev In (ps : List StT) (v : Int) : Prop := 0 ≤ v ∧ v < (ps.length : Int)
theorem asc_uniq : ∀ {l m : List Mk}, l.Pairwise mlt → m.Pairwise mlt → (∀ x, x ∈ l ↔ x ∈ m) → l = m
  | [], [], _, _, _ => rfl
  | [], b :: m, _, _, h => by have := (h b).mpr (by simp); simp at this
  | a :: l, [], _, _, h => by have := (h a).mp (by simp); simp at this
  | a :: l, b :: m, hl, hm, h => by
    have hl' := List.pairwise_cons.mp hl
    have hm' := List.pairwise_cons.mp hm
    have e : a = b := by
      rcases List.mem_cons.mp ((h a).mp (by simp)) with c | c
      · exact c
      · rcases List.mem_cons.mp ((h b).mpr (by simp)) with d | d
        · exact d.symm
        · have h1 := hm'.1 a c
          have h2 := hl'.1 b d
          have := PyProof.Rows.lex_trans _ _ _ h1.1 h2.1
          rw [PyProof.Rows.lex_irrefl] at this; cases this
    subst e
    rw [asc_uniq hl'.2 hm'.2 fun x => ?_]
    constructor
    · intro hx
      rcases List.mem_cons.mp ((h x).mp (by simp [hx])) with c | c
      · exact absurd c.symm (mlt_ne (hl'.1 x hx))
      · exact c
    · intro hx
      rcases List.mem_cons.mp ((h x).mpr (by simp [hx])) with c | c
      · exact absurd c.symm (mlt_ne (hm'.1 x hx))
      · exact c
theorem find_some_iff {st : List (Mk × Int)} {m : Mk} : (st.find? fun p => decide (p.1 = m)).isSome = true ↔ m ∈ st.map (·.1) := by
  rw [List.isSome_find?, List.any_eq_true, List.mem_map]
  simp
theorem run_one (ps : List StT) (v : Int) (m : Mk) : (run ps v [m]).isSome = true ↔ m ∈ (staAt ps v).2.map (·.1) := by
  rw [run_cons, ← find_some_iff]
  cases (staAt ps v).2.find? fun p => decide (p.1 = m) <;> simp [run_nil]
variable {ps qs : List StT}
theorem sta_nd (h : POk ps) {v : Int} (hv : In ps v) : ((staAt ps v).2.map (·.1)).Nodup := asc_nd (sta_in2 h hv).a
where sta_in2 (h : POk ps) {v : Int} (hv : In ps v) : StOk ps.length (staAt ps v) := h.s _ (staAt_mem hv.1 hv.2).2
theorem sta_ok' (h : POk ps) {v : Int} (hv : In ps v) : StOk ps.length (staAt ps v) := h.s _ (staAt_mem hv.1 hv.2).2
/-- one step on -/
theorem Same.rest {v u : Int} (h : Same ps v qs u) : rests ps v = rests qs u := by
  have := h []
  rw [run_nil, run_nil] at this
  exact Option.some.inj this
theorem Same.marks (hp : POk ps) (hq : POk qs) {v u : Int} (hv : In ps v) (hu : In qs u) (h : Same ps v qs u) : (staAt ps v).2.map (·.1) = (staAt qs u).2.map (·.1) := by
  refine asc_uniq ?_ ?_ fun m => ?_
  · rw [List.pairwise_map]; exact (sta_ok' hp hv).a
  · rw [List.pairwise_map]; exact (sta_ok' hq hu).a
  · rw [← run_one, ← run_one, h [m]]
theorem Same.next (hp : POk ps) (hq : POk qs) {v u : Int} (hv : In ps v) (hu : In qs u) (h : Same ps v qs u) {m : Mk} {a b : Int} (ha : (m, a) ∈ (staAt ps v).2) (hb : (m, b) ∈ (staAt qs u).2) : Same ps a qs b := by
  intro r
  have := h (m :: r)
  rw [run_cons, run_cons, find_nd' (sta_nd hp hv) ha, find_nd' (sta_nd hq hu) hb] at this
  exact this
where find_nd' {st : List (Mk × Int)} (h : (st.map (·.1)).Nodup) {m : Mk} {a : Int} (hp : (m, a) ∈ st) : (st.find? fun q => decide (q.1 = m)) = some (m, a) := find_nd h hp
/-- a relation that goes on is sameness -/
theorem same_of (hp : POk ps) (hq : POk qs) (R : Int → Int → Prop) (hin : ∀ v u, R v u → In ps v ∧ In qs u) (hr : ∀ v u, R v u → rests ps v = rests qs u) (hm : ∀ v u, R v u → (staAt ps v).2.map (·.1) = (staAt qs u).2.map (·.1)) (hn : ∀ v u, R v u → ∀ m a b, (m, a) ∈ (staAt ps v).2 → (m, b) ∈ (staAt qs u).2 → R a b) : ∀ v u, R v u → Same ps v qs u := by
  intro v u h r
  induction r generalizing v u with
  | nil => rw [run_nil, run_nil, hr v u h]
  | cons m r ih =>
    rw [run_cons, run_cons]
    have i := hin v u h
    by_cases c : m ∈ (staAt ps v).2.map (·.1)
    · have c' : m ∈ (staAt qs u).2.map (·.1) := hm v u h ▸ c
      obtain ⟨⟨m1, a⟩, ha, e1⟩ := List.mem_map.mp c
      obtain ⟨⟨m2, b⟩, hb, e2⟩ := List.mem_map.mp c'
      simp only at e1 e2
      subst e1
      subst e2
      rw [Same.next.find_nd' (sta_nd hp i.1) ha, Same.next.find_nd' (sta_nd hq i.2) hb]
      exact ih a b (hn v u h _ a b ha hb)
    · have c' : ¬ m ∈ (staAt qs u).2.map (·.1) := hm v u h ▸ c
      have f1 : ((staAt ps v).2.find? fun p => decide (p.1 = m)) = none := by
        rw [← Option.not_isSome_iff_eq_none, find_some_iff]; exact c
      have f2 : ((staAt qs u).2.find? fun p => decide (p.1 = m)) = none := by
        rw [← Option.not_isSome_iff_eq_none, find_some_iff]; exact c'
      rw [f1, f2]
/-! lines -/
def lineOf (f : Int → Int) (s : StT) : StT := (s.1, s.2.map fun p => (p.1, f p.2))
theorem line_eq {f g : Int → Int} {s t : StT} (hnd : (t.2.map (·.1)).Nodup) : lineOf f s = lineOf g t ↔ s.1 = t.1 ∧ s.2.map (·.1) = t.2.map (·.1) ∧ ∀ m a b, (m, a) ∈ s.2 → (m, b) ∈ t.2 → f a = g b := by
  have aux : ∀ (k l : List (Mk × Int)), (l.map (·.1)).Nodup → ((k.map fun p => (p.1, f p.2)) = (l.map fun p => (p.1, g p.2)) ↔ k.map (·.1) = l.map (·.1) ∧ ∀ m a b, (m, a) ∈ k → (m, b) ∈ l → f a = g b) := by
    intro k
    induction k with
    | nil => intro l hl; cases l <;> simp
    | cons x k ih =>
      intro l hl
      cases l with
      | nil => simp
      | cons y l =>
        rw [List.map_cons, List.nodup_cons] at hl
        rw [List.map_cons, List.map_cons, List.cons.injEq, Prod.mk.injEq, ih l hl.2, List.map_cons, List.map_cons, List.cons.injEq]
        constructor
        · rintro ⟨⟨e1, e2⟩, e3, e4⟩
          refine ⟨⟨e1, e3⟩, fun m a b ha hb => ?_⟩
          rcases List.mem_cons.mp ha with ha | ha
          · rcases List.mem_cons.mp hb with hb | hb
            · rw [← ha, ← hb] at e2; exact e2
            · exfalso
              refine hl.1 (List.mem_map.mpr ⟨(m, b), hb, ?_⟩)
              rw [← e1, ← ha]
          · rcases List.mem_cons.mp hb with hb | hb
            · exfalso
              refine hl.1 ?_
              rw [← e3]
              exact List.mem_map.mpr ⟨(m, a), ha, by rw [← hb]⟩
            · exact e4 m a b ha hb
        · rintro ⟨⟨e1, e3⟩, e4⟩
          refine ⟨⟨e1, ?_⟩, e3, fun m a b ha hb => e4 m a b (by simp [ha]) (by simp [hb])⟩
          exact e4 x.1 x.2 y.2 (by simp) (by rw [e1]; simp)
  unfold lineOf
  rw [Prod.mk.injEq, aux s.2 t.2 hnd]
/-- f keeps apart no two that do the same -/
def Coarse (ps : List StT) (f : Int → Int) : Prop := ∀ a b, In ps a → In ps b → Same ps a ps b → f a = f b
/-- f's classes go on -/
def Goes (ps : List StT) (f : Int → Int) : Prop := ∀ a b, In ps a → In ps b → f a = f b → lineOf f (staAt ps a) = lineOf f (staAt ps b)
theorem step_in (h : POk ps) {v : Int} (hv : In ps v) {m : Mk} {a : Int} (ha : (m, a) ∈ (staAt ps v).2) : In ps a := (sta_ok' h hv).t (m, a) ha
theorem Coarse.line (h : POk ps) {f : Int → Int} (c : Coarse ps f) {a b : Int} (ha : In ps a) (hb : In ps b) (s : Same ps a ps b) : lineOf f (staAt ps a) = lineOf f (staAt ps b) :=
  (line_eq (sta_nd h hb)).mpr ⟨s.rest, s.marks h h ha hb, fun m x y hx hy => c x y (step_in h ha hx) (step_in h hb hy) (s.next h h ha hb hx hy)⟩
theorem Goes.same (h : POk ps) {f : Int → Int} (g : Goes ps f) {a b : Int} (ha : In ps a) (hb : In ps b) (e : f a = f b) : Same ps a ps b := by
  have key : ∀ v u, (In ps v ∧ In ps u ∧ f v = f u) → (staAt ps v).1 = (staAt ps u).1 ∧ (staAt ps v).2.map (·.1) = (staAt ps u).2.map (·.1) ∧ ∀ m a b, (m, a) ∈ (staAt ps v).2 → (m, b) ∈ (staAt ps u).2 → f a = f b := fun v u ⟨h1, h2, h3⟩ => (line_eq (sta_nd h h2)).mp (g v u h1 h2 h3)
  exact same_of h h (fun v u => In ps v ∧ In ps u ∧ f v = f u) (fun v u k => ⟨k.1, k.2.1⟩) (fun v u k => (key v u k).1) (fun v u k => (key v u k).2.1) (fun v u k m x y hx hy => ⟨step_in h k.1 hx, step_in h k.2.1 hy, (key v u k).2.2 m x y hx hy⟩) a b ⟨ha, hb, e⟩
/-- f tells just what does the same -/
structure Tells (ps : List StT) (f : Int → Int) : Prop where
  iff : ∀ a b, In ps a → In ps b → (f a = f b ↔ Same ps a ps b)
theorem Tells.of (h : POk ps) {f : Int → Int} (c : Coarse ps f) (g : Goes ps f) : Tells ps f := ⟨fun a b ha hb => ⟨g.same h ha hb, c a b ha hb⟩⟩
/-! the part whose states are classes -/
/-- reduced: no two states do the same -/
def Red (ps : List StT) : Prop := ∀ a b, In ps a → In ps b → Same ps a ps b → a = b
theorem OP_fwd (h : POk ps) {v : Int} (hv : v ∈ OP ps) : In ps v := OP_in h v hv
/-- a part in another's clothes -/
theorem iso (hp : POk ps) (f : Int → Int) (S : Int → Prop) (s0 : S 0) (f0 : f 0 = 0) (hin : ∀ v, S v → In ps v) (go : ∀ v, S v → ∀ p ∈ (staAt ps v).2, S p.2) (inj : ∀ a b, S a → S b → f a = f b → a = b) (hline : ∀ v, S v → lineOf f (staAt ps v) = staAt qs (f v)) : trP ps = trP qs := by
  have hG : ∀ v, S v → G (wP qs) (f v) = (G (wP ps) v).map f := fun v hv => by
    unfold G
    rw [stp_wP, stp_wP, ← hline v hv, lineOf, List.map_map, List.map_map]; rfl
  have hgo : ∀ u, S u → ∀ t ∈ G (wP ps) u, S t := fun u hu t ht => by
    unfold G at ht
    rw [stp_wP] at ht
    obtain ⟨p, hp', rfl⟩ := List.mem_map.mp ht
    exact go u hu p hp'
  have hO : OP qs = (OP ps).map f := by
    have := Bf.bf_map (G := G (wP ps)) (G' := G (wP qs)) (v := 0) (f := f) (S := S) (fun a b ha hb e => inj a b ha hb e) s0 hgo hG 8
    rw [f0] at this
    exact this
  have hin' : ∀ v ∈ OP ps, S v := Bf.ord_sub (S := S) s0 hgo
  have hidx : ∀ t ∈ OP ps, Bf.idx (OP qs) (f t) = Bf.idx (OP ps) t := fun t ht => by
    rw [hO]
    obtain ⟨i, hi, e⟩ := List.getElem_of_mem ht
    have h1 : Bf.idx (OP ps) t = i := by rw [← e]; exact Bf.idx_at OP_nd hi
    have hnd : ((OP ps).map f).Nodup := by rw [← hO]; exact OP_nd
    have h2 := Bf.idx_at hnd (i := i) (by simpa using hi)
    rw [List.getElem_map, e] at h2
    rw [h1, h2]
  unfold trP
  rw [hO, List.map_map]
  refine List.map_congr_left fun v hv => ?_
  simp only [Function.comp]
  rw [← hO, ← hline v (hin' v hv)]
  unfold rnS lineOf
  rw [List.map_map]
  simp only [Prod.mk.injEq, true_and]
  refine List.map_congr_left fun p hp' => ?_
  simp only [Function.comp, Prod.mk.injEq, true_and]
  exact (hidx p.2 (OP_go hp hv p hp')).symm
/-- two reduced parts that do the same have one trimmed part -/
theorem red_uniq (hp : POk ps) (hq : POk qs) (rq : Red qs) (rp : Red ps) (h0 : Same ps 0 qs 0) : trP ps = trP qs := by
  classical
  let f : Int → Int := fun v => if hv : ∃ u, In qs u ∧ Same ps v qs u then Classical.choose hv else 0
  have hf : ∀ v u, In qs u → Same ps v qs u → f v = u := fun v u hu hs => by
    have ex : ∃ u, In qs u ∧ Same ps v qs u := ⟨u, hu, hs⟩
    have := Classical.choose_spec ex
    have e : f v = Classical.choose ex := dif_pos ex
    rw [e]
    exact rq _ _ this.1 hu (this.2.symm.trans hs)
  let S : Int → Prop := fun v => In ps v ∧ ∃ u, In qs u ∧ Same ps v qs u
  have z1 : In ps 0 := by have := hp.n; constructor <;> omega
  have z2 : In qs 0 := by have := hq.n; constructor <;> omega
  have hS : ∀ v, S v → In qs (f v) ∧ Same ps v qs (f v) := fun v ⟨_, u, hu, hs⟩ => by rw [hf v u hu hs]; exact ⟨hu, hs⟩
  have hSt : ∀ v, S v → ∀ m a, (m, a) ∈ (staAt ps v).2 → S a ∧ (m, f a) ∈ (staAt qs (f v)).2 := fun v hv m a ha => by
    have k := hS v hv
    have hm := k.2.marks hp hq hv.1 k.1
    have : m ∈ (staAt qs (f v)).2.map (·.1) := by rw [← hm]; exact List.mem_map.mpr ⟨(m, a), ha, rfl⟩
    obtain ⟨⟨m', b⟩, hb, e⟩ := List.mem_map.mp this
    simp only at e
    subst e
    have s := k.2.next hp hq hv.1 k.1 ha hb
    have ib := step_in hq k.1 hb
    refine ⟨⟨step_in hp hv.1 ha, b, ib, s⟩, ?_⟩
    rw [hf a b ib s]; exact hb
  have hline : ∀ v, S v → lineOf f (staAt ps v) = staAt qs (f v) := fun v hv => by
    have k := hS v hv
    have e : staAt qs (f v) = lineOf id (staAt qs (f v)) := by simp [lineOf]
    rw [e, line_eq (sta_nd hq k.1)]
    refine ⟨k.2.rest, k.2.marks hp hq hv.1 k.1, fun m a b ha hb => ?_⟩
    exact hf a b (step_in hq k.1 hb) (k.2.next hp hq hv.1 k.1 ha hb)
  exact iso hp f S ⟨z1, 0, z2, h0⟩ (hf 0 0 z2 h0) (fun v hv => hv.1) (fun v hv p hp' => (hSt v hv p.1 p.2 hp').1) (fun a b ha hb e => rp a b ha.1 hb.1 ((hS a ha).2.trans (by rw [e]; exact (hS b hb).2.symm))) hline
/-- the trimmed part does the same -/
theorem trP_len : (trP ps).length = (OP ps).length := by simp [trP]
theorem trP_at {u : Int} (h : POk ps) (hu : u ∈ OP ps) : staAt (trP ps) (Bf.idx (OP ps) u) = rnS (OP ps) (staAt ps u) := by
  have hl := Bf.idx_lt hu
  have : (trP ps)[(Bf.idx (OP ps) u).toNat]? = some (rnS (OP ps) (staAt ps u)) := by
    unfold trP
    rw [List.getElem?_map]
    have e : (Bf.idx (OP ps) u).toNat = (OP ps).idxOf u := by unfold Bf.idx; omega
    rw [e, List.getElem?_eq_getElem (List.idxOf_lt_length_of_mem hu), List.getElem_idxOf]; rfl
  unfold staAt at this ⊢
  rw [this]; rfl
theorem OP_0 (h : POk ps) : Bf.idx (OP ps) 0 = 0 := by
  have : (OP ps)[0]? = some 0 := by
    have p : Bf.bf (G (wP ps)) 0 0 <+: OP ps := Bf.bf_le (by omega)
    obtain ⟨z, e⟩ := p
    rw [← e]; rfl
  obtain ⟨hi, e⟩ := List.getElem?_eq_some_iff.mp this
  have := Bf.idx_at OP_nd hi
  rw [e] at this; simpa using this
theorem trP_ok (h : POk ps) : POk (trP ps) where
  n := by
    rw [trP_len]
    have := OP_len h
    have : 0 ∈ OP ps := Bf.ord_self
    have : 0 < (OP ps).length := List.length_pos_of_mem this
    omega
  s := by
    intro s hs
    rw [trP_len]
    obtain ⟨v, hv, rfl⟩ := List.mem_map.mp hs
    have so := sta_ok h hv
    have hmem : ∀ q ∈ (rnS (OP ps) (staAt ps v)).2, ∃ p ∈ (staAt ps v).2, q = (p.1, Bf.idx (OP ps) p.2) := fun q hq => by
      obtain ⟨p, hp, rfl⟩ := List.mem_map.mp hq
      exact ⟨p, hp, rfl⟩
    exact {
      l := by simp only [rnS, List.length_map]; exact so.l
      e := fun q hq => by obtain ⟨p, hp, rfl⟩ := hmem q hq; exact so.e p hp
      t := fun q hq => by obtain ⟨p, hp, rfl⟩ := hmem q hq; exact Bf.idx_lt (OP_go h hv p hp)
      a := by simp only [rnS, List.pairwise_map]; exact so.a }
theorem trP_same (h : POk ps) {v : Int} (hv : v ∈ OP ps) : Same ps v (trP ps) (Bf.idx (OP ps) v) := by
  refine same_of h (trP_ok h) (fun v u => v ∈ OP ps ∧ u = Bf.idx (OP ps) v) (fun v u k => ⟨OP_fwd h k.1, ?_⟩) (fun v u k => ?_) (fun v u k => ?_) (fun v u k m a b ha hb => ?_) v _ ⟨hv, rfl⟩
  · rw [k.2]; have := Bf.idx_lt k.1; rw [In, trP_len]; exact this
  · rw [k.2]; unfold rests; rw [trP_at h k.1]; rfl
  · rw [k.2, trP_at h k.1, rnS, List.map_map]; rfl
  · have hav := OP_go h k.1 (m, a) ha
    refine ⟨hav, ?_⟩
    rw [k.2, trP_at h k.1] at hb
    obtain ⟨⟨m', c⟩, hc, e⟩ := List.mem_map.mp hb
    simp only [Prod.mk.injEq] at e
    obtain ⟨rfl, rfl⟩ := e
    have hnd := sta_nd h (OP_fwd h k.1)
    have e1 := Same.next.find_nd' hnd ha
    have e2 := Same.next.find_nd' hnd hc
    rw [e1] at e2
    have := Option.some.inj e2
    simp only [Prod.mk.injEq, true_and] at this
    rw [this]
theorem trP_red (h : POk ps) (r : Red ps) : Red (trP ps) := by
  intro a b ha hb s
  rw [In, trP_len] at ha hb
  have key : ∀ c : Int, 0 ≤ c ∧ c < ((OP ps).length : Int) → ∃ v ∈ OP ps, Bf.idx (OP ps) v = c := fun c hc => by
    have hi : c.toNat < (OP ps).length := by omega
    exact ⟨(OP ps)[c.toNat], List.getElem_mem hi, by rw [Bf.idx_at OP_nd hi]; omega⟩
  obtain ⟨v, hv, rfl⟩ := key a ha
  obtain ⟨u, hu, rfl⟩ := key b hb
  rw [r v u (OP_fwd h hv) (OP_fwd h hu) ((trP_same h hv).trans (s.trans (trP_same h hu).symm))]
theorem trP_twice (h : POk ps) : trP ps = trP (trP ps) :=
  iso h (Bf.idx (OP ps)) (fun v => v ∈ OP ps) Bf.ord_self (OP_0 h) (fun v hv => OP_fwd h hv) (fun v hv p hp => OP_go h hv p hp) (fun a b ha hb e => by
    obtain ⟨i, hi, e1⟩ := List.getElem_of_mem ha
    obtain ⟨j, hj, e2⟩ := List.getElem_of_mem hb
    have h1 : Bf.idx (OP ps) a = i := by rw [← e1]; exact Bf.idx_at OP_nd hi
    have h2 : Bf.idx (OP ps) b = j := by rw [← e2]; exact Bf.idx_at OP_nd hj
    rw [h1, h2] at e
    have : i = j := by omega
    subst this
    rw [← e1, ← e2]) (fun v hv => by rw [trP_at h hv]; rfl)
/-! rows -/
theorem lev_same (hp : POk ps) (hq : POk qs) (h0 : Same ps 0 qs 0) : ∀ k, ∃ l : List (List Mk × Int × Int), lev (wP ps) k = l.map (fun t => (t.1, t.2.1)) ∧ lev (wP qs) k = l.map (fun t => (t.1, t.2.2)) ∧ ∀ t ∈ l, In ps t.2.1 ∧ In qs t.2.2 ∧ Same ps t.2.1 qs t.2.2
  | 0 => ⟨[([], 0, 0)], rfl, rfl, fun t ht => by
    rw [List.mem_singleton] at ht; subst ht
    have := hp.n; have := hq.n
    exact ⟨⟨by simp, by simp; omega⟩, ⟨by simp, by simp; omega⟩, h0⟩⟩
  | k + 1 => by
    obtain ⟨l, e1, e2, h⟩ := lev_same hp hq h0 k
    have one : ∀ t ∈ l, ∃ z : List (List Mk × Int × Int), nxt (wP ps) (t.1, t.2.1) = z.map (fun t => (t.1, t.2.1)) ∧ nxt (wP qs) (t.1, t.2.2) = z.map (fun t => (t.1, t.2.2)) ∧ ∀ t ∈ z, In ps t.2.1 ∧ In qs t.2.2 ∧ Same ps t.2.1 qs t.2.2 := fun t ht => by
      obtain ⟨i1, i2, s⟩ := h t ht
      have hm := s.marks hp hq i1 i2
      have hlen : (staAt ps t.2.1).2.length = (staAt qs t.2.2).2.length := by simpa using congrArg List.length hm
      refine ⟨((staAt ps t.2.1).2.zip (staAt qs t.2.2).2).map fun w => (t.1 ++ [w.1.1], w.1.2, w.2.2), ?_, ?_, ?_⟩
      · rw [nxt, stp_wP, List.map_map]
        apply List.ext_getElem (by simp; omega)
        intro i h1 h2
        simp
      · rw [nxt, stp_wP, List.map_map]
        apply List.ext_getElem (by simp; omega)
        intro i h1 h2
        simp only [List.getElem_map, Function.comp, List.getElem_zip, Prod.mk.injEq, List.append_cancel_left_eq, List.cons.injEq, and_true]
        have := congrArg (fun l => l[i]?) hm
        simp only [List.getElem?_map] at this
        rw [List.getElem?_eq_getElem (by simp at h1; omega), List.getElem?_eq_getElem (by simpa using h1)] at this
        simpa using this.symm
      · intro w hw
        obtain ⟨⟨⟨m, a⟩, ⟨m', b⟩⟩, hz, rfl⟩ := List.mem_map.mp hw
        obtain ⟨i, hi, e⟩ := List.getElem_of_mem hz
        rw [List.getElem_zip] at e
        simp only [Prod.mk.injEq] at e
        have ha : (m, a) ∈ (staAt ps t.2.1).2 := e.1 ▸ List.getElem_mem _
        have hb : (m', b) ∈ (staAt qs t.2.2).2 := e.2 ▸ List.getElem_mem _
        have hmm : m = m' := by
          have := congrArg (fun l => l[i]?) hm
          simp only [List.getElem?_map] at this
          simp only [List.length_zip] at hi
          rw [List.getElem?_eq_getElem (by omega), List.getElem?_eq_getElem (by omega), e.1, e.2] at this
          simpa using this
        subst hmm
        exact ⟨step_in hp i1 ha, step_in hq i2 hb, s.next hp hq i1 i2 ha hb⟩
    have all : ∀ l : List (List Mk × Int × Int), (∀ t ∈ l, ∃ z : List (List Mk × Int × Int), nxt (wP ps) (t.1, t.2.1) = z.map (fun t => (t.1, t.2.1)) ∧ nxt (wP qs) (t.1, t.2.2) = z.map (fun t => (t.1, t.2.2)) ∧ ∀ t ∈ z, In ps t.2.1 ∧ In qs t.2.2 ∧ Same ps t.2.1 qs t.2.2) → ∃ z : List (List Mk × Int × Int), (l.map (fun t => (t.1, t.2.1))).flatMap (nxt (wP ps)) = z.map (fun t => (t.1, t.2.1)) ∧ (l.map (fun t => (t.1, t.2.2))).flatMap (nxt (wP qs)) = z.map (fun t => (t.1, t.2.2)) ∧ ∀ t ∈ z, In ps t.2.1 ∧ In qs t.2.2 ∧ Same ps t.2.1 qs t.2.2 := by
      intro l
      induction l with
      | nil => intro _; exact ⟨[], rfl, rfl, by simp⟩
      | cons t l ih =>
        intro h
        obtain ⟨z, a1, a2, a3⟩ := h t (by simp)
        obtain ⟨y, b1, b2, b3⟩ := ih fun t ht => h t (by simp [ht])
        refine ⟨z ++ y, ?_, ?_, fun t ht => ?_⟩
        · rw [List.map_cons, List.flatMap_cons, a1, b1, List.map_append]
        · rw [List.map_cons, List.flatMap_cons, a2, b2, List.map_append]
        · rcases List.mem_append.mp ht with ht | ht
          · exact a3 t ht
          · exact b3 t ht
    obtain ⟨z, a1, a2, a3⟩ := all l one
    exact ⟨z, by rw [lev, e1, a1], by rw [lev, e2, a2], a3⟩
theorem rows_same (hp : POk ps) (hq : POk qs) (h0 : Same ps 0 qs 0) (k : Nat) : (lev (wP ps) k).map (fun r => rowD r.1) = (lev (wP qs) k).map (fun r => rowD r.1) ∧ ((lev (wP ps) k).filter fun r => rests ps r.2).map (fun r => rowD r.1) = ((lev (wP qs) k).filter fun r => rests qs r.2).map (fun r => rowD r.1) := by
  obtain ⟨l, e1, e2, h⟩ := lev_same hp hq h0 k
  rw [e1, e2]
  refine ⟨by rw [List.map_map, List.map_map]; rfl, ?_⟩
  rw [List.filter_map, List.filter_map, List.map_map, List.map_map]
  have : l.filter ((fun r => rests ps r.2) ∘ fun t => (t.1, t.2.1)) = l.filter ((fun r => rests qs r.2) ∘ fun t => (t.1, t.2.2)) := List.filter_congr fun t ht => (h t ht).2.2.rest
  rw [this]; rfl
end Lw

namespace Lw
open PySem RT Wb
/-! classes, by their first members -/
section
variable {α β : Type} [DecidableEq α] [DecidableEq β] {f : Nat → α} {g : Nat → β} {n : Nat}
def leadN (f : Nat → α) (i : Nat) : Bool := (List.range i).all fun j => !decide (f j = f i)
def cntN (f : Nat → α) (n : Nat) : Nat := ((List.range n).filter (leadN f)).length
theorem leadN_iff {i : Nat} : leadN f i = true ↔ ∀ j, j < i → f j ≠ f i := by simp [leadN]
theorem lead_ex (f : Nat → α) : ∀ i, ∃ l, l ≤ i ∧ f l = f i ∧ leadN f l = true := by
  intro i
  induction i using Nat.strongRecOn with
  | ind i ih =>
    by_cases c : leadN f i = true
    · exact ⟨i, Nat.le_refl _, rfl, c⟩
    · rw [leadN_iff] at c
      have : ∃ j, j < i ∧ f j = f i := by
        apply Classical.byContradiction
        intro h
        exact c fun j hj e => h ⟨j, hj, e⟩
      obtain ⟨j, hj, e⟩ := this
      obtain ⟨l, h1, h2, h3⟩ := ih j hj
      exact ⟨l, by omega, h2.trans e, h3⟩
theorem lead_uniq {a b : Nat} (ha : leadN f a = true) (hb : leadN f b = true) (e : f a = f b) : a = b := by
  rw [leadN_iff] at ha hb
  rcases Nat.lt_trichotomy a b with c | c | c
  · exact absurd e (hb a c)
  · exact c
  · exact absurd e.symm (ha b c)
/-- g is finer -/
def RefN (g : Nat → β) (f : Nat → α) (n : Nat) : Prop := ∀ i j, i < n → j < n → g i = g j → f i = f j
theorem lead_ref (h : RefN g f n) {i : Nat} (hi : i < n) (c : leadN f i = true) : leadN g i = true := by
  rw [leadN_iff] at c ⊢
  exact fun j hj e => c j hj (h j i (by omega) hi e)
theorem filter_le {p q : Nat → Bool} : ∀ {l : List Nat}, (∀ x ∈ l, p x = true → q x = true) → (l.filter p).length ≤ (l.filter q).length ∧ ((l.filter p).length = (l.filter q).length → ∀ x ∈ l, q x = true → p x = true)
  | [], _ => ⟨Nat.le_refl _, fun _ x hx => nomatch hx⟩
  | a :: l, h => by
    obtain ⟨h1, h2⟩ := filter_le (l := l) fun x hx => h x (List.mem_cons_of_mem _ hx)
    have ha := h a List.mem_cons_self
    cases cp : p a with
    | true =>
      rw [List.filter_cons_of_pos cp, List.filter_cons_of_pos (ha cp)]
      refine ⟨by simp only [List.length_cons]; omega, fun e x hx => ?_⟩
      rcases List.mem_cons.mp hx with rfl | hx
      · exact fun _ => cp
      · exact h2 (by simpa using e) x hx
    | false =>
      rw [List.filter_cons_of_neg (by rw [cp]; simp)]
      cases cq : q a with
      | true =>
        rw [List.filter_cons_of_pos cq]
        simp only [List.length_cons]
        exact ⟨by omega, fun e => by omega⟩
      | false =>
        rw [List.filter_cons_of_neg (by rw [cq]; simp)]
        refine ⟨h1, fun e x hx => ?_⟩
        rcases List.mem_cons.mp hx with rfl | hx
        · intro z; rw [cq] at z; cases z
        · exact h2 e x hx
theorem cnt_ref (h : RefN g f n) : cntN f n ≤ cntN g n := (filter_le fun x hx => lead_ref h (List.mem_range.mp hx)).1
theorem cnt_same (h : RefN g f n) (e : cntN f n = cntN g n) : RefN f g n := by
  have key := (filter_le fun x hx => lead_ref h (List.mem_range.mp hx)).2 e
  intro i j hi hj he
  obtain ⟨a, a1, a2, a3⟩ := lead_ex g i
  obtain ⟨b, b1, b2, b3⟩ := lead_ex g j
  have fa : f a = f i := h a i (by omega) hi a2
  have fb : f b = f j := h b j (by omega) hj b2
  have la := key a (List.mem_range.mpr (by omega)) a3
  have lb := key b (List.mem_range.mpr (by omega)) b3
  have := lead_uniq la lb (by rw [fa, fb, he])
  rw [← a2, ← b2, this]
theorem cnt_le : cntN f n ≤ n := by
  have := List.length_filter_le (leadN f) (List.range n)
  rwa [List.length_range] at this
theorem cnt_succ : cntN f (n + 1) = cntN f n + if leadN f n = true then 1 else 0 := by
  unfold cntN
  rw [List.range_succ, List.filter_append, List.length_append]
  congr 1
  by_cases c : leadN f n = true <;> simp [c]
theorem cnt_mono {a b : Nat} (h : a ≤ b) : cntN f a ≤ cntN f b := by
  induction h with
  | refl => exact Nat.le_refl _
  | step _ ih => rw [cnt_succ]; omega
theorem cnt_lt {a b : Nat} (h : a < b) (c : leadN f a = true) : cntN f a < cntN f b := by
  have : cntN f (a + 1) ≤ cntN f b := cnt_mono h
  rw [cnt_succ, if_pos c] at this; omega
theorem cnt_hit : ∀ {n k : Nat}, k < cntN f n → ∃ l, l < n ∧ leadN f l = true ∧ cntN f l = k
  | 0, k, h => by simp [cntN] at h
  | n + 1, k, h => by
    rw [cnt_succ] at h
    by_cases c : k < cntN f n
    · obtain ⟨l, h1, h2⟩ := cnt_hit c
      exact ⟨l, by omega, h2⟩
    · split at h
      · rename_i c2
        exact ⟨n, by omega, c2, by omega⟩
      · omega
theorem lead_congr {f' : Nat → α} {i : Nat} (h : ∀ j, j ≤ i → f j = f' j) : leadN f i = leadN f' i := by
  have : leadN f i = true ↔ leadN f' i = true := by
    rw [leadN_iff, leadN_iff]
    constructor
    · intro k j hj; rw [← h j (by omega), ← h i (Nat.le_refl _)]; exact k j hj
    · intro k j hj; rw [h j (by omega), h i (Nat.le_refl _)]; exact k j hj
  cases a : leadN f i <;> cases b : leadN f' i <;> simp_all
theorem cnt_congr {f' : Nat → α} : ∀ {n : Nat}, (∀ j, j < n → f j = f' j) → cntN f n = cntN f' n
  | 0, _ => rfl
  | n + 1, h => by rw [cnt_succ, cnt_succ, cnt_congr fun j hj => h j (by omega), lead_congr fun j hj => h j (by omega)]
end
/-! numbers in the order in which they first stand -/
section
variable {α : Type} [DecidableEq α]
def fk (ks : List α) : Nat → Option α := fun i => ks[i]?
def rk (ks : List α) (k : α) : Nat := cntN (fk ks) (ks.idxOf k)
def rkL (ks : List α) : List Int := ks.map fun k => ((rk ks k : Nat) : Int)
theorem idx_lead {ks : List α} {k : α} (h : k ∈ ks) : leadN (fk ks) (ks.idxOf k) = true := by
  rw [leadN_iff]
  intro j hj e
  have hl := List.idxOf_lt_length_of_mem h
  unfold fk at e
  rw [List.getElem?_eq_getElem hl, List.getElem_idxOf hl] at e
  have hj' : j < ks.length := by omega
  rw [List.getElem?_eq_getElem hj'] at e
  have := List.not_of_lt_findIdx (p := fun x => x == k) (xs := ks) (i := j) hj
  simp at this
  exact this (Option.some.inj e)
theorem rk_inj {ks : List α} {a b : α} (ha : a ∈ ks) (hb : b ∈ ks) (e : rk ks a = rk ks b) : a = b := by
  have la := idx_lead ha
  have lb := idx_lead hb
  have ia := List.idxOf_lt_length_of_mem ha
  have ib := List.idxOf_lt_length_of_mem hb
  unfold rk at e
  have : ks.idxOf a = ks.idxOf b := by
    rcases Nat.lt_trichotomy (ks.idxOf a) (ks.idxOf b) with c | c | c
    · have := cnt_lt c la; omega
    · exact c
    · have := cnt_lt c lb; omega
  have e1 := List.getElem_idxOf ia
  have e2 := List.getElem_idxOf ib
  rw [← e1, ← e2]
  congr 1
theorem rk_lt {ks : List α} {a : α} (ha : a ∈ ks) : rk ks a < cntN (fk ks) ks.length := cnt_lt (List.idxOf_lt_length_of_mem ha) (idx_lead ha)
theorem rk_hit {ks : List α} {c : Nat} (h : c < cntN (fk ks) ks.length) : ∃ a ∈ ks, rk ks a = c := by
  obtain ⟨l, h1, h2, h3⟩ := cnt_hit h
  refine ⟨ks[l], List.getElem_mem h1, ?_⟩
  have m : ks[l] ∈ ks := List.getElem_mem h1
  have := lead_uniq h2 (idx_lead m) (by
    unfold fk
    rw [List.getElem?_eq_getElem h1, List.getElem?_eq_getElem (List.idxOf_lt_length_of_mem m), List.getElem_idxOf])
  unfold rk
  rw [← this]; exact h3
theorem rk_head {a : α} {ks : List α} : rk (a :: ks) a = 0 := by simp [rk, cntN]
end
end Lw

namespace Lw
open PySem RT Wb
/-! what numbered answers -/
theorem snoc_ind {α : Type} {P : List α → Prop} (h0 : P []) (h1 : ∀ l a, P l → P (l ++ [a])) (l : List α) : P l := by
  have : ∀ r : List α, P r.reverse := by
    intro r
    induction r with
    | nil => exact h0
    | cons a r ih => rw [List.reverse_cons]; exact h1 _ _ ih
  have := this l.reverse
  rwa [List.reverse_reverse] at this
section
variable {α : Type} [DecidableEq α]
theorem fk_app {P : List α} {d : α} {j : Nat} (h : j < P.length) : fk (P ++ [d]) j = fk P j := by
  unfold fk; rw [List.getElem?_append_left h]
theorem rk_app {P : List α} {d k : α} (h : k ∈ P) : rk (P ++ [d]) k = rk P k := by
  unfold rk
  have e : (P ++ [d]).idxOf k = P.idxOf k := by rw [List.idxOf_append, if_pos h]
  rw [e]
  have := List.idxOf_lt_length_of_mem h
  exact cnt_congr fun j hj => fk_app (by omega)
theorem rk_new {P : List α} {d : α} (h : d ∉ P) : rk (P ++ [d]) d = cntN (fk P) P.length := by
  unfold rk
  have e : (P ++ [d]).idxOf d = P.length := by rw [List.idxOf_append, if_neg h]; simp
  rw [e]
  exact cnt_congr fun j hj => fk_app hj
theorem lead_app {P : List α} {d : α} : leadN (fk (P ++ [d])) P.length = true ↔ d ∉ P := by
  rw [leadN_iff]
  have e : fk (P ++ [d]) P.length = some d := by unfold fk; simp
  constructor
  · intro h hd
    obtain ⟨i, hi, ei⟩ := List.getElem_of_mem hd
    refine h i hi ?_
    rw [fk_app hi, e]
    unfold fk
    rw [List.getElem?_eq_getElem hi, ei]
  · intro h j hj z
    rw [fk_app hj, e] at z
    unfold fk at z
    exact h (List.mem_of_getElem? z)
theorem cnt_app {P : List α} {d : α} : cntN (fk (P ++ [d])) (P.length + 1) = cntN (fk P) P.length + if d ∈ P then 0 else 1 := by
  rw [cnt_succ, cnt_congr (f' := fk P) fun j hj => fk_app hj]
  congr 1
  by_cases c : d ∈ P
  · rw [if_pos c, if_neg fun z => lead_app.mp z c]
  · rw [if_neg c, if_pos (lead_app.mpr c)]
variable {enc : α → D} {q : α → NestedKey}
theorem tbl_snoc (l : List D) (d : D) : tblK (l ++ [d]) = tblS (tblK l) d := by unfold tblK; rw [List.foldl_append]; rfl
theorem valA_app {ds : List (D × D)} {e : D} {d : D} {k : NestedKey} (he : nk e = some k) (k' : NestedKey) : valA (ds ++ [(e, d)]) k' = match valA ds k' with
    | some z => some z
    | none => if k = k' then some d else none := by
  unfold valA
  rw [List.find?_append]
  cases (ds.find? fun p => decide (nk p.1 = some k')) with
  | some z => rfl
  | none =>
    simp only [Option.none_or, Option.map_none]
    by_cases c : k = k'
    · subst c; simp [he]
    · simp [he, c]
theorem tbl_eq (hq : ∀ a, nk (enc a) = some (q a)) (hi : ∀ a b, q a = q b → a = b) (ks : List α) :
    (tblK (ks.map enc)).length = cntN (fk ks) ks.length ∧ ∀ k, valA (tblK (ks.map enc)) (q k) = if k ∈ ks then some (.int (rk ks k : Nat)) else none := by
  refine snoc_ind (P := fun ks => (tblK (ks.map enc)).length = cntN (fk ks) ks.length ∧ ∀ k, valA (tblK (ks.map enc)) (q k) = if k ∈ ks then some (.int (rk ks k : Nat)) else none) ⟨rfl, fun k => by simp [tblK, valA]⟩ ?_ ks
  intro P d ⟨h1, h2⟩
  rw [List.map_append, List.map_singleton, tbl_snoc, List.length_append, List.length_singleton, cnt_app]
  have hd := h2 d
  unfold tblS
  rw [hq d]
  simp only [hd]
  by_cases c : d ∈ P
  · rw [if_pos c, if_pos c]
    refine ⟨by rw [h1]; omega, fun k => ?_⟩
    have hk := h2 k
    show valA (tblK (P.map enc)) (q k) = _
    rw [hk]
    by_cases ck : k ∈ P
    · rw [if_pos ck, if_pos (by simp [ck]), rk_app ck]
    · have : k ∉ P ++ [d] := by
        simp only [List.mem_append, List.mem_singleton, not_or]
        exact ⟨ck, fun e => ck (e ▸ c)⟩
      rw [if_neg ck, if_neg this]
  · rw [if_neg c, if_neg c]
    refine ⟨by show (tblK (P.map enc) ++ [(enc d, D.int (tblK (P.map enc)).length)]).length = _; rw [List.length_append, h1]; rfl, fun k => ?_⟩
    show valA (tblK (P.map enc) ++ [(enc d, D.int (tblK (P.map enc)).length)]) (q k) = _
    rw [valA_app (hq d), h2 k]
    by_cases ck : k ∈ P
    · have m : k ∈ P ++ [d] := List.mem_append_left _ ck
      rw [if_pos ck, if_pos m, rk_app ck]
    · rw [if_neg ck]
      by_cases e : d = k
      · subst e
        simp only [if_true]
        rw [if_pos (by simp), rk_new c, h1]
      · have ne : q d ≠ q k := fun z => e (hi _ _ z)
        simp only [if_neg ne]
        rw [if_neg]
        simp only [List.mem_append, List.mem_singleton, not_or]
        exact ⟨ck, fun z => e z.symm⟩
theorem gNum_eq {b : Bool} (hq : ∀ a, nk (enc a) = some (q a)) (hi : ∀ a b, q a = q b → a = b) (hd : ∀ a, (q a).depth ≤ 8) (ht : ∀ a, isTupD (enc a) = b) {ks : List α} (hl : ks.length ≤ 1000) :
    gNumbered [.list (ks.map enc)] = some (.list ((rkL ks).map .int)) := by
  unfold gNumbered
  have hk : ∀ d ∈ ks.map enc, keyOk d = true := fun d hd' => by
    obtain ⟨a, _, rfl⟩ := List.mem_map.mp hd'
    unfold keyOk; rw [hq a]; exact decide_eq_true (hd a)
  have hb : ∀ d ∈ ks.map enc, isTupD d = b := fun d hd' => by
    obtain ⟨a, _, rfl⟩ := List.mem_map.mp hd'
    exact ht a
  have c : (ks.map enc).length ≤ 1000 ∧ (∀ d ∈ ks.map enc, keyOk d = true) ∧ ((∀ d ∈ ks.map enc, isTupD d = true) ∨ ∀ d ∈ ks.map enc, isTupD d = false) := by
    refine ⟨by rw [List.length_map]; exact hl, hk, ?_⟩
    cases b with
    | true => exact .inl hb
    | false => exact .inr hb
  simp only [if_pos c]
  obtain ⟨_, h2⟩ := tbl_eq hq hi ks
  have key : ∀ l : List α, (∀ a ∈ l, a ∈ ks) → (l.map enc).mapM (fun d => (nk d).bind (valA (tblK (ks.map enc)))) = some (l.map fun k => D.int (rk ks k : Nat)) := by
    intro l
    induction l with
    | nil => intro _; rfl
    | cons a l ih =>
      intro h
      rw [List.map_cons, List.mapM_cons, hq a]
      have := h2 a
      rw [if_pos (h a List.mem_cons_self)] at this
      simp only [Option.bind_some, this, ih fun x hx => h x (List.mem_cons_of_mem _ hx)]
      rfl
  rw [key ks fun a h => h]
  simp [rkL, List.map_map, Function.comp_def]
end
/-! the keys of states -/
def kQ : L2.Key → NestedKey
  | .inl i => .num i
  | .inr x => .text x
theorem nk_key (k : L2.Key) : nk (keyD k) = some (kQ k) := by cases k <;> rfl
theorem kQ_inj {a b : L2.Key} (h : kQ a = kQ b) : a = b := by
  cases a <;> cases b <;> simp [kQ] at h <;> rw [h]
theorem nks_map {α : Type} {enc : α → D} {q : α → NestedKey} (hq : ∀ a, nk (enc a) = some (q a)) : ∀ (l : List α) (tl : List D) (tq : List NestedKey), nks tl = some tq → nks (l.map enc ++ tl) = some (l.map q ++ tq)
  | [], tl, tq, h => h
  | a :: l, tl, tq, h => by
    rw [List.map_cons, List.cons_append, nks, hq a, nks_map hq l tl tq h]; rfl
def stQ (p : Mk × Int) : NestedKey := .tup (p.1.map kQ ++ [.num p.2])
def bQ (b : Bool) : NestedKey := .num (if b = true then 1 else 0)
def staQ (s : StT) : NestedKey := .tup [bQ s.1, .tup (s.2.map stQ)]
def keyQ (c : Int × StT) : NestedKey := .tup [.num c.1, staQ c.2]
def eKey (c : Int × StT) : D := .tuple [.int c.1, eSta c.2]
theorem nk_st (p : Mk × Int) : nk (eSt p) = some (stQ p) := by
  unfold eSt stQ
  rw [nk, nks_map nk_key p.1 [.int p.2] [.num p.2] rfl]; rfl
theorem nk_sta (s : StT) : nk (eSta s) = some (staQ s) := by
  have h := nks_map nk_st s.2 [] [] rfl
  rw [List.append_nil, List.append_nil] at h
  unfold eSta staQ bQ
  simp only [nk, nks, h, Option.map_some]
theorem nk_keyC (c : Int × StT) : nk (eKey c) = some (keyQ c) := by
  unfold eKey keyQ
  simp only [nk, nks, nk_sta, Option.map_some]
theorem map_inj' {α β : Type} {f : α → β} (h : ∀ a b, f a = f b → a = b) : ∀ {l m : List α}, l.map f = m.map f → l = m
  | [], [], _ => rfl
  | [], _ :: _, e => by cases e
  | _ :: _, [], e => by cases e
  | a :: l, b :: m, e => by
    rw [List.map_cons, List.map_cons, List.cons.injEq] at e
    rw [h _ _ e.1, map_inj' h e.2]
theorem stQ_inj (a b : Mk × Int) (h : stQ a = stQ b) : a = b := by
  unfold stQ at h
  injection h with h
  have h' := List.append_inj' h rfl
  have e1 := map_inj' (fun _ _ => kQ_inj) h'.1
  have e2 := h'.2
  simp at e2
  exact Prod.ext e1 e2
theorem bQ_inj {a b : Bool} (h : bQ a = bQ b) : a = b := by cases a <;> cases b <;> simp [bQ] at h <;> rfl
theorem staQ_inj (a b : StT) (h : staQ a = staQ b) : a = b := by
  unfold staQ at h
  simp only [NestedKey.tup.injEq, List.cons.injEq, and_true] at h
  exact Prod.ext (bQ_inj h.1) (map_inj' stQ_inj h.2)
theorem keyQ_inj (a b : Int × StT) (h : keyQ a = keyQ b) : a = b := by
  unfold keyQ at h
  simp only [NestedKey.tup.injEq, List.cons.injEq, NestedKey.num.injEq, and_true] at h
  exact Prod.ext h.1 (staQ_inj _ _ h.2)
theorem dep_all' {n : Nat} : ∀ {l : List NestedKey}, (∀ k ∈ l, k.depth ≤ n) → NestedKey.depthAll l ≤ n
  | [], _ => Nat.zero_le _
  | k :: l, h => by
    rw [NestedKey.depthAll]
    have := dep_all' (l := l) fun x hx => h x (List.mem_cons_of_mem _ hx)
    have := h k List.mem_cons_self
    omega
theorem stQ_dep (p : Mk × Int) : (stQ p).depth ≤ 1 := by
  unfold stQ
  rw [NestedKey.depth]
  have : NestedKey.depthAll (p.1.map kQ ++ [.num p.2]) ≤ 0 := dep_all' fun k hk => by
    rcases List.mem_append.mp hk with hk | hk
    · obtain ⟨x, _, rfl⟩ := List.mem_map.mp hk
      cases x <;> exact Nat.le_refl _
    · rw [List.mem_singleton] at hk; subst hk; exact Nat.le_refl _
  omega
theorem staQ_dep (s : StT) : (staQ s).depth ≤ 3 := by
  have : NestedKey.depthAll (s.2.map stQ) ≤ 1 := dep_all' fun k hk => by
    obtain ⟨x, _, rfl⟩ := List.mem_map.mp hk
    exact stQ_dep x
  unfold staQ bQ
  simp only [NestedKey.depth, NestedKey.depthAll]
  omega
theorem keyQ_dep (c : Int × StT) : (keyQ c).depth ≤ 8 := by
  have := staQ_dep c.2
  unfold keyQ
  simp only [NestedKey.depth, NestedKey.depthAll]
  omega
instance decSt : DecidableEq StT := fun a b => instDecidableEqProd a b
instance decKey : DecidableEq (Int × StT) := fun a b => @instDecidableEqProd Int StT _ decSt a b
theorem num_keys {ks : List (Int × StT)} (hl : ks.length ≤ 1000) : m_numbered [.list (ks.map eKey)] = some (il (rkL ks)) := gNum_eq (b := true) nk_keyC keyQ_inj keyQ_dep (fun _ => rfl) hl
theorem num_bools {ks : List Bool} (hl : ks.length ≤ 1000) : m_numbered [.list (ks.map .bool)] = some (il (rkL ks)) := gNum_eq (b := false) (q := bQ) (fun _ => rfl) (fun _ _ => bQ_inj) (fun b => Nat.zero_le _) (fun _ => rfl) hl
end Lw

namespace Lw
open PySem RT Wb
/-! marks of states -/
def vl (l : List Int) (v : Int) : Int := (l[v.toNat]?).getD 0
section
variable {α β : Type} [DecidableEq α] [DecidableEq β]
abbrev ksOf (n : Nat) (κ : Nat → α) : List α := (List.range n).map κ
theorem fk_of {n : Nat} {κ : Nat → α} {i : Nat} (h : i < n) : fk (ksOf n κ) i = some (κ i) := by simp [fk, h]
theorem vl_rk {n : Nat} {κ : Nat → α} {i : Nat} (h : i < n) : vl (rkL (ksOf n κ)) i = (rk (ksOf n κ) (κ i) : Nat) := by
  simp [vl, rkL, h]
theorem vl_iff {n : Nat} {κ : Nat → α} {i j : Nat} (hi : i < n) (hj : j < n) : vl (rkL (ksOf n κ)) i = vl (rkL (ksOf n κ)) j ↔ κ i = κ j := by
  rw [vl_rk hi, vl_rk hj]
  constructor
  · intro h
    exact rk_inj (List.mem_map.mpr ⟨i, List.mem_range.mpr hi, rfl⟩) (List.mem_map.mpr ⟨j, List.mem_range.mpr hj, rfl⟩) (Int.ofNat.inj h)
  · intro h; rw [h]
theorem cnt_vl {n : Nat} {κ : Nat → α} : cntN (fun i : Nat => vl (rkL (ksOf n κ)) i) n = cntN (fk (ksOf n κ)) (ksOf n κ).length := by
  have hl : (ksOf n κ).length = n := by simp
  rw [hl]
  refine Nat.le_antisymm (cnt_ref fun i j hi hj e => ?_) (cnt_ref fun i j hi hj e => ?_)
  · rw [fk_of hi, fk_of hj] at e
    exact (vl_iff hi hj).mpr (Option.some.inj e)
  · rw [fk_of hi, fk_of hj, (vl_iff hi hj).mp e]
theorem max_rk {ks : List α} (h : ks ≠ []) : gMax [il (rkL ks)] = some (.int ((cntN (fk ks) ks.length : Nat) - 1 : Int)) := by
  obtain ⟨a, l, rfl⟩ := List.exists_cons_of_ne_nil h
  have hc : 0 < cntN (fk (a :: l)) (a :: l).length := Nat.lt_of_le_of_lt (Nat.zero_le _) (rk_lt (a := a) List.mem_cons_self)
  generalize hks : a :: l = ks at *
  have e : ∃ n ns, rkL ks = n :: ns := by rw [← hks]; exact ⟨_, _, rfl⟩
  obtain ⟨n, ns, e⟩ := e
  have h1 : gMax [il (rkL ks)] = some (.int (maxI n ns)) := by
    rw [e]
    simp only [gMax, il, intsD_map]
  rw [h1]
  obtain ⟨m1, m2, m3⟩ := maxI_le ns n
  have bound : ∀ x ∈ rkL ks, x < (cntN (fk ks) ks.length : Nat) := fun x hx => by
    obtain ⟨k, hk, rfl⟩ := List.mem_map.mp hx
    have := rk_lt hk; omega
  have mem : maxI n ns ∈ rkL ks := by
    rw [e]
    rcases m3 with z | z
    · rw [z]; exact List.mem_cons_self
    · exact List.mem_cons_of_mem _ z
  have ge : ∀ x ∈ rkL ks, x ≤ maxI n ns := fun x hx => by
    rw [e] at hx
    rcases List.mem_cons.mp hx with rfl | hx
    · exact m1
    · exact m2 x hx
  obtain ⟨k, hk, e2⟩ := rk_hit (ks := ks) (c := cntN (fk ks) ks.length - 1) (by omega)
  have b1 := bound _ mem
  have b2 := ge _ (List.mem_map.mpr ⟨k, hk, rfl⟩)
  have : maxI n ns = (cntN (fk ks) ks.length : Nat) - 1 := by omega
  rw [this]
end
variable {ps : List StT}
theorem range_sta {β : Type} (F : StT → β) : ps.map F = ksOf ps.length fun i => F (staAt ps i) := by
  apply List.ext_getElem (by simp)
  intro i h1 h2
  simp [staAt, List.getElem?_eq_getElem (by simpa using h1 : i < ps.length)]
def keyP (ps : List StT) (g : List Int) (i : Nat) : Int × StT := (vl g i, lineOf (vl g) (staAt ps i))
def gr (ps : List StT) : Nat → List Int
  | 0 => rkL (ksOf ps.length fun i => (staAt ps i).1)
  | k + 1 => rkL (ksOf ps.length (keyP ps (gr ps k)))
def cls (ps : List StT) (k : Nat) : Nat := cntN (fun i : Nat => vl (gr ps k) i) ps.length
theorem in_nat {v : Int} (h : In ps v) : v = (v.toNat : Int) ∧ v.toNat < ps.length := by have h1 := h.1; have h2 := h.2; omega
theorem nat_in {i : Nat} (h : i < ps.length) : In ps i := ⟨by omega, by omega⟩
theorem gr_len (k : Nat) : (gr ps k).length = ps.length := by cases k <;> simp [gr, rkL]
theorem gr_ref (k : Nat) : RefN (fun i : Nat => vl (gr ps (k + 1)) i) (fun i : Nat => vl (gr ps k) i) ps.length := fun i j hi hj e => by
  have := (vl_iff (κ := keyP ps (gr ps k)) hi hj).mp e
  exact (Prod.ext_iff.mp this).1
theorem gr_coarse (h : POk ps) : ∀ k, Coarse ps (vl (gr ps k))
  | 0, a, b, ha, hb, s => by
    obtain ⟨ea, la⟩ := in_nat ha
    obtain ⟨eb, lb⟩ := in_nat hb
    rw [ea, eb]
    refine (vl_iff (κ := fun i : Nat => (staAt ps i).1) la lb).mpr ?_
    show (staAt ps ((a.toNat : Nat) : Int)).1 = (staAt ps ((b.toNat : Nat) : Int)).1
    rw [← ea, ← eb]; exact s.rest
  | k + 1, a, b, ha, hb, s => by
    obtain ⟨ea, la⟩ := in_nat ha
    obtain ⟨eb, lb⟩ := in_nat hb
    have c := gr_coarse h k
    rw [ea, eb]
    refine (vl_iff (κ := keyP ps (gr ps k)) la lb).mpr ?_
    unfold keyP
    rw [← ea, ← eb, c a b ha hb s, c.line h ha hb s]
theorem gr_goes {k : Nat} (e : cls ps k = cls ps (k + 1)) : Goes ps (vl (gr ps k)) := fun a b ha hb he => by
  obtain ⟨ea, la⟩ := in_nat ha
  obtain ⟨eb, lb⟩ := in_nat hb
  have r := cnt_same (gr_ref k) e a.toNat b.toNat la lb (by show vl _ _ = vl _ _; rw [← ea, ← eb]; exact he)
  have := (Prod.ext_iff.mp ((vl_iff (κ := keyP ps (gr ps k)) la lb).mp r)).2
  unfold keyP at this
  simp only at this
  rw [← ea, ← eb] at this
  exact this
theorem cls_le (k : Nat) : cls ps k ≤ ps.length := cnt_le
theorem cls_stop : ∃ k, k ≤ ps.length ∧ cls ps k = cls ps (k + 1) ∧ ∀ j, j < k → cls ps j ≠ cls ps (j + 1) := by
  have grow : ∀ N, (∀ j, j < N → cls ps j ≠ cls ps (j + 1)) → N ≤ cls ps N := by
    intro N
    induction N with
    | zero => intro _; omega
    | succ N ih =>
      intro h
      have h1 := ih fun j hj => h j (by omega)
      have h2 : cls ps N ≤ cls ps (N + 1) := cnt_ref (gr_ref N)
      have h3 := h N (by omega)
      omega
  have : ∃ k, k ≤ ps.length ∧ cls ps k = cls ps (k + 1) := by
    apply Classical.byContradiction
    intro hn
    have := grow (ps.length + 1) fun j hj e => hn ⟨j, by omega, e⟩
    have := cls_le (ps := ps) (ps.length + 1)
    omega
  obtain ⟨k, hk, e⟩ := this
  obtain ⟨k', h1, h2, h3⟩ := first_ex (P := fun k => cls ps k = cls ps (k + 1)) k e
  exact ⟨k', by omega, h2, h3⟩
/-- numbers of classes -/
structure Cls (ps : List StT) (g : List Int) (c : Nat) : Prop where
  len : g.length = ps.length
  t : Tells ps (vl g)
  r : ∀ v, In ps v → 0 ≤ vl g v ∧ vl g v < (c : Int)
  hit : ∀ j : Nat, j < c → (j : Int) ∈ g
  z : vl g 0 = 0
  c : c ≤ ps.length
theorem rk_zero {α : Type} [DecidableEq α] {n : Nat} {κ : Nat → α} (h : 0 < n) : vl (rkL (ksOf n κ)) 0 = 0 := by
  have := vl_rk (κ := κ) h
  have e : (0 : Int) = ((0 : Nat) : Int) := rfl
  rw [e, this]
  obtain ⟨m, rfl⟩ : ∃ m, n = m + 1 := ⟨n - 1, by omega⟩
  have e2 : ksOf (m + 1) κ = κ 0 :: (List.range m).map (fun i => κ (i + 1)) := by
    simp [ksOf, List.range_succ_eq_map, Function.comp_def]
  rw [e2, rk_head]
theorem gr_cls (h : POk ps) {k : Nat} (e : cls ps k = cls ps (k + 1)) : Cls ps (gr ps k) (cls ps k) := by
  have n0 : 0 < ps.length := by have := h.n; omega
  have gen : ∀ {α : Type} [DecidableEq α] (κ : Nat → α), gr ps k = rkL (ksOf ps.length κ) → Cls ps (gr ps k) (cls ps k) := fun {α} _ κ eg => {
    len := gr_len k
    t := Tells.of h (gr_coarse h k) (gr_goes e)
    r := fun v hv => by
      obtain ⟨ev, lv⟩ := in_nat hv
      unfold cls
      rw [eg, cnt_vl, ev, vl_rk lv]
      have := rk_lt (ks := ksOf ps.length κ) (a := κ v.toNat) (List.mem_map.mpr ⟨v.toNat, List.mem_range.mpr lv, rfl⟩)
      omega
    hit := fun j hj => by
      unfold cls at hj
      rw [eg, cnt_vl] at hj
      obtain ⟨a, ha, ea⟩ := rk_hit hj
      rw [eg]
      exact List.mem_map.mpr ⟨a, ha, by rw [ea]⟩
    z := by rw [eg]; exact rk_zero n0
    c := cls_le k }
  cases k with
  | zero => exact gen _ rfl
  | succ k => exact gen _ rfl
/-! the part of the classes -/
def fstOf (g : List Int) (j : Int) : Int := (g.idxOf j : Nat)
def QP (ps : List StT) (g : List Int) (c : Nat) : List StT := (List.range c).map fun (j : Nat) => lineOf (vl g) (staAt ps (fstOf g (j : Int)))
variable {g : List Int} {c : Nat}
theorem fst_in (C : Cls ps g c) {j : Int} (hj : 0 ≤ j ∧ j < (c : Int)) : In ps (fstOf g j) ∧ vl g (fstOf g j) = j := by
  have hm := C.hit j.toNat (by omega)
  rw [show ((j.toNat : Nat) : Int) = j by omega] at hm
  have hl := List.idxOf_lt_length_of_mem hm
  refine ⟨⟨by unfold fstOf; omega, by unfold fstOf; have := C.len; omega⟩, ?_⟩
  unfold vl fstOf
  rw [Int.toNat_natCast, List.getElem?_eq_getElem hl, List.getElem_idxOf]; rfl
theorem QP_len : (QP ps g c).length = c := by simp [QP]
theorem QP_at (h : POk ps) (C : Cls ps g c) {j : Int} (hj : 0 ≤ j ∧ j < (c : Int)) : staAt (QP ps g c) j = lineOf (vl g) (staAt ps (fstOf g j)) := by
  have : (QP ps g c)[j.toNat]? = some (lineOf (vl g) (staAt ps (fstOf g j))) := by
    unfold QP
    have hl : j.toNat < c := by omega
    rw [List.getElem?_map, List.getElem?_range hl]
    simp only [Option.map_some]
    rw [show ((j.toNat : Nat) : Int) = j by omega]
  unfold staAt at this ⊢
  rw [this]; rfl
theorem QP_v (h : POk ps) (C : Cls ps g c) {v : Int} (hv : In ps v) : staAt (QP ps g c) (vl g v) = lineOf (vl g) (staAt ps v) := by
  have r := C.r v hv
  rw [QP_at h C r]
  have f := fst_in C r
  have s := (C.t.iff _ _ f.1 hv).mp f.2
  exact Coarse.line h (fun a b ha hb s => (C.t.iff a b ha hb).mpr s) f.1 hv s
theorem line_ok {f : Int → Int} {s : StT} {n m : Nat} (so : StOk n s) (hf : ∀ p ∈ s.2, 0 ≤ f p.2 ∧ f p.2 < (m : Int)) : StOk m (lineOf f s) where
  l := by simp only [lineOf, List.length_map]; exact so.l
  e := fun q hq => by
    obtain ⟨p, hp, rfl⟩ := List.mem_map.mp hq
    exact so.e p hp
  t := fun q hq => by
    obtain ⟨p, hp, rfl⟩ := List.mem_map.mp hq
    exact hf p hp
  a := by simp only [lineOf, List.pairwise_map]; exact so.a
theorem QP_ok (h : POk ps) (C : Cls ps g c) : POk (QP ps g c) where
  n := by
    rw [QP_len]
    have z : In ps 0 := by have := h.n; constructor <;> omega
    have := C.r 0 z
    have := C.c
    have := h.n
    omega
  s := by
    intro s hs
    rw [QP_len]
    obtain ⟨j, hj, rfl⟩ := List.mem_map.mp hs
    have hj := List.mem_range.mp hj
    have f := fst_in C (j := (j : Int)) ⟨by omega, by omega⟩
    have so := sta_ok' h f.1
    exact line_ok so fun p hp => C.r p.2 (so.t p hp)
theorem QP_same (h : POk ps) (C : Cls ps g c) {v : Int} (hv : In ps v) : Same ps v (QP ps g c) (vl g v) := by
  refine same_of h (QP_ok h C) (fun v u => In ps v ∧ u = vl g v) (fun v u k => ⟨k.1, ?_⟩) (fun v u k => ?_) (fun v u k => ?_) (fun v u k m a b ha hb => ?_) v _ ⟨hv, rfl⟩
  · rw [k.2, In, QP_len]; exact C.r v k.1
  · rw [k.2]; unfold rests; rw [QP_v h C k.1]; rfl
  · rw [k.2, QP_v h C k.1, lineOf, List.map_map]; rfl
  · refine ⟨step_in h k.1 ha, ?_⟩
    rw [k.2, QP_v h C k.1] at hb
    obtain ⟨⟨m', c'⟩, hc, e⟩ := List.mem_map.mp hb
    simp only [Prod.mk.injEq] at e
    obtain ⟨rfl, rfl⟩ := e
    have hnd := sta_nd h k.1
    have e1 := Same.next.find_nd' hnd ha
    have e2 := Same.next.find_nd' hnd hc
    rw [e1] at e2
    have := Option.some.inj e2
    simp only [Prod.mk.injEq, true_and] at this
    rw [this]
theorem QP_red (h : POk ps) (C : Cls ps g c) : Red (QP ps g c) := by
  intro a b ha hb s
  rw [In, QP_len] at ha hb
  have fa := fst_in C ha
  have fb := fst_in C hb
  have sa := QP_same h C fa.1
  have sb := QP_same h C fb.1
  rw [fa.2] at sa
  rw [fb.2] at sb
  have := (C.t.iff _ _ fa.1 fb.1).mpr (sa.trans (s.trans sb.symm))
  rw [fa.2, fb.2] at this
  exact this
end Lw

namespace Lw
open PySem RT Wb
variable {ps qs : List StT}
/-! the least part -/
noncomputable def LK (ps : List StT) : Nat := Classical.choose (cls_stop (ps := ps))
theorem LK_spec : LK ps ≤ ps.length ∧ cls ps (LK ps) = cls ps (LK ps + 1) ∧ ∀ j, j < LK ps → cls ps j ≠ cls ps (j + 1) := Classical.choose_spec (cls_stop (ps := ps))
noncomputable def LG (ps : List StT) : List Int := gr ps (LK ps)
noncomputable def LC (ps : List StT) : Nat := cls ps (LK ps)
theorem L_cls (h : POk ps) : Cls ps (LG ps) (LC ps) := gr_cls h LK_spec.2.1
noncomputable def LQ (ps : List StT) : List StT := QP ps (LG ps) (LC ps)
noncomputable def LP (ps : List StT) : List StT := trP (LQ ps)
theorem in_0 (h : POk ps) : In ps 0 := by have := h.n; constructor <;> omega
theorem trP_same0 (h : POk ps) : Same ps 0 (trP ps) 0 := by
  have := trP_same h (v := 0) Bf.ord_self
  rwa [OP_0 h] at this
theorem LQ_same (h : POk ps) : Same ps 0 (LQ ps) 0 := by
  have := QP_same h (L_cls h) (in_0 h)
  rwa [(L_cls h).z] at this
theorem lp_ok (h : POk ps) : POk (LP ps) := trP_ok (QP_ok h (L_cls h))
theorem lp_same (h : POk ps) : Same ps 0 (LP ps) 0 := (LQ_same h).trans (trP_same0 (QP_ok h (L_cls h)))
theorem lp_iff (h : POk ps) (k : POk qs) : LP ps = LP qs ↔ Same ps 0 qs 0 := by
  constructor
  · intro e
    have := lp_same h
    rw [e] at this
    exact this.trans (lp_same k).symm
  · intro s
    exact red_uniq (QP_ok h (L_cls h)) (QP_ok k (L_cls k)) (QP_red k (L_cls k)) (QP_red h (L_cls h)) ((LQ_same h).symm.trans (s.trans (LQ_same k)))
theorem lp_twice (h : POk ps) : LP (LP ps) = LP ps := (lp_iff (lp_ok h) h).mpr (lp_same h).symm
theorem lp_trim (h : POk ps) : LP (trP ps) = LP ps := (lp_iff (trP_ok h) h).mpr (trP_same0 h).symm
theorem nd_len : ∀ {l m : List Int}, l.Nodup → (∀ x ∈ l, x ∈ m) → l.length ≤ m.length
  | [], _, _, _ => Nat.zero_le _
  | a :: l, m, hn, hs => by
    have hn' := List.nodup_cons.mp hn
    have ha := hs a List.mem_cons_self
    have := nd_len (l := l) (m := m.erase a) hn'.2 fun x hx => (List.mem_erase_of_ne (show x ≠ a from fun e => hn'.1 (by rw [← e]; exact hx))).mpr (hs x (List.mem_cons_of_mem _ hx))
    rw [List.length_erase_of_mem ha] at this
    have := List.length_pos_of_mem ha
    simp only [List.length_cons]; omega
theorem trP_le (h : POk ps) : (trP ps).length ≤ ps.length := by
  rw [trP_len]
  have := Bf.ord_len (web_ok h.web) (z_in h.web)
  rw [wP_len] at this
  exact this
theorem lp_le (h : POk ps) : (LP ps).length ≤ (trP ps).length := by
  have C := L_cls h
  have hq := QP_ok h C
  unfold LP
  rw [trP_len, trP_len, ← List.length_map (f := vl (LG ps)) (as := OP ps)]
  refine nd_len OP_nd fun x hx => ?_
  have key : ∀ v ∈ OP (LQ ps), ∃ u ∈ OP ps, vl (LG ps) u = v := Bf.ord_sub (S := fun v => ∃ u ∈ OP ps, vl (LG ps) u = v) ⟨0, Bf.ord_self, C.z⟩ (fun v hv t ht => by
    obtain ⟨u, hu, rfl⟩ := hv
    unfold G at ht
    have e : staAt (LQ ps) (vl (LG ps) u) = _ := QP_v h C (OP_fwd h hu)
    rw [stp_wP, e] at ht
    obtain ⟨q, hq', rfl⟩ := List.mem_map.mp ht
    obtain ⟨p, hp, rfl⟩ := List.mem_map.mp hq'
    exact ⟨p.2, OP_go h hu p hp, rfl⟩)
  obtain ⟨u, hu, e⟩ := key x hx
  exact List.mem_map.mpr ⟨u, hu, e⟩
/-! the law's marks: the first that is alike -/
section
variable {α : Type} [DecidableEq α]
def ixL (ks : List α) : List Int := ks.map fun k => ((ks.idxOf k : Nat) : Int)
theorem vl_ix {n : Nat} {κ : Nat → α} {i : Nat} (h : i < n) : vl (ixL (ksOf n κ)) i = ((ksOf n κ).idxOf (κ i) : Nat) := by simp [vl, ixL, h]
theorem ix_at {n : Nat} {κ : Nat → α} {i : Nat} (h : i < n) : (ksOf n κ).idxOf (κ i) < n ∧ κ ((ksOf n κ).idxOf (κ i)) = κ i := by
  have m : κ i ∈ ksOf n κ := List.mem_map.mpr ⟨i, List.mem_range.mpr h, rfl⟩
  have hl := List.idxOf_lt_length_of_mem m
  have e := List.getElem_idxOf hl
  have hl' : (ksOf n κ).idxOf (κ i) < n := by simpa using hl
  refine ⟨hl', ?_⟩
  rw [List.getElem_map] at e
  simpa using e
theorem ix_iff {n : Nat} {κ : Nat → α} {i j : Nat} (hi : i < n) (hj : j < n) : vl (ixL (ksOf n κ)) i = vl (ixL (ksOf n κ)) j ↔ κ i = κ j := by
  rw [vl_ix hi, vl_ix hj]
  constructor
  · intro h
    have h := Int.ofNat.inj h
    have a := (ix_at (κ := κ) hi).2
    have b := (ix_at (κ := κ) hj).2
    rw [← a, ← b, h]
  · intro h; rw [h]
end
theorem ix_head {α : Type} [DecidableEq α] (a : α) (l : List α) : (a :: l).idxOf a = 0 := List.idxOf_cons_self
def lnF (ps : List StT) (m : List Int) (i : Nat) : StT := lineOf (vl m) (staAt ps i)
def mk (ps : List StT) : Nat → List Int
  | 0 => List.replicate ps.length 0
  | k + 1 => ixL (ksOf ps.length (lnF ps (mk ps k)))
theorem mk_len : ∀ k, (mk ps k).length = ps.length
  | 0 => by simp [mk]
  | k + 1 => by simp [mk, ixL]
theorem mk_0 {v : Int} (hv : In ps v) : vl (mk ps 0) v = 0 := by
  unfold vl mk
  have := hv.2; have := hv.1
  rw [List.getElem?_eq_getElem (by simp; omega)]; simp
/-- lines that are alike under the finer are alike under the coarser -/
theorem line_down (h : POk ps) {f g : Int → Int} (r : ∀ a b, In ps a → In ps b → f a = f b → g a = g b) {a b : Int} (ha : In ps a) (hb : In ps b) (e : lineOf f (staAt ps a) = lineOf f (staAt ps b)) : lineOf g (staAt ps a) = lineOf g (staAt ps b) := by
  rw [line_eq (sta_nd h hb)] at e ⊢
  exact ⟨e.1, e.2.1, fun m x y hx hy => r x y (step_in h ha hx) (step_in h hb hy) (e.2.2 m x y hx hy)⟩
theorem mk_iff {k : Nat} {a b : Int} (ha : In ps a) (hb : In ps b) : vl (mk ps (k + 1)) a = vl (mk ps (k + 1)) b ↔ lineOf (vl (mk ps k)) (staAt ps a) = lineOf (vl (mk ps k)) (staAt ps b) := by
  obtain ⟨ea, la⟩ := in_nat ha
  obtain ⟨eb, lb⟩ := in_nat hb
  have := ix_iff (κ := lnF ps (mk ps k)) la lb
  unfold lnF at this
  rw [← ea, ← eb] at this
  exact this
theorem mk_ref (h : POk ps) : ∀ k a b, In ps a → In ps b → vl (mk ps (k + 1)) a = vl (mk ps (k + 1)) b → vl (mk ps k) a = vl (mk ps k) b
  | 0, a, b, ha, hb, _ => by rw [mk_0 ha, mk_0 hb]
  | k + 1, a, b, ha, hb, e => by
    rw [mk_iff ha hb] at e ⊢
    exact line_down h (mk_ref h k) ha hb e
theorem mk_coarse (h : POk ps) : ∀ k, Coarse ps (vl (mk ps k))
  | 0, a, b, ha, hb, _ => by rw [mk_0 ha, mk_0 hb]
  | k + 1, a, b, ha, hb, s => (mk_iff ha hb).mpr ((mk_coarse h k).line h ha hb s)
theorem mk_still (h : POk ps) {j : Nat} (e : ∀ a b, In ps a → In ps b → vl (mk ps j) a = vl (mk ps j) b → vl (mk ps (j + 1)) a = vl (mk ps (j + 1)) b) : ∀ i, ∀ a b, In ps a → In ps b → vl (mk ps (j + i)) a = vl (mk ps (j + i)) b → vl (mk ps (j + i + 1)) a = vl (mk ps (j + i + 1)) b
  | 0 => e
  | i + 1 => fun a b ha hb q => by
    rw [show j + (i + 1) = (j + i) + 1 by omega] at q ⊢
    rw [mk_iff ha hb] at q ⊢
    exact line_down h (mk_still h e i) ha hb q
theorem mk_goes (h : POk ps) : Goes ps (vl (mk ps (ps.length + 1))) := by
  have nat : ∀ {k}, RefN (fun i : Nat => vl (mk ps (k + 1)) i) (fun i : Nat => vl (mk ps k) i) ps.length := fun {k} i j hi hj e => mk_ref h k i j (nat_in hi) (nat_in hj) e
  have stop : ∃ j, j ≤ ps.length ∧ cntN (fun i : Nat => vl (mk ps j) i) ps.length = cntN (fun i : Nat => vl (mk ps (j + 1)) i) ps.length := by
    apply Classical.byContradiction
    intro hn
    have grow : ∀ N, N ≤ ps.length + 1 → N ≤ cntN (fun i : Nat => vl (mk ps N) i) ps.length := by
      intro N
      induction N with
      | zero => intro _; omega
      | succ N ih =>
        intro hN
        have h1 := ih (by omega)
        have h2 : cntN (fun i : Nat => vl (mk ps N) i) ps.length ≤ cntN (fun i : Nat => vl (mk ps (N + 1)) i) ps.length := cnt_ref nat
        have h3 : ¬ cntN (fun i : Nat => vl (mk ps N) i) ps.length = cntN (fun i : Nat => vl (mk ps (N + 1)) i) ps.length := fun e => hn ⟨N, by omega, e⟩
        omega
    have h1 := grow (ps.length + 1) (by omega)
    have h2 : cntN (fun i : Nat => vl (mk ps (ps.length + 1)) i) ps.length ≤ ps.length := cnt_le
    omega
  obtain ⟨j, hj, e⟩ := stop
  have r := cnt_same nat e
  have st := mk_still h (j := j) (fun a b ha hb q => by
    obtain ⟨ea, la⟩ := in_nat ha
    obtain ⟨eb, lb⟩ := in_nat hb
    rw [ea, eb] at q ⊢
    exact r a.toNat b.toNat la lb q) (ps.length + 1 - j)
  rw [show j + (ps.length + 1 - j) = ps.length + 1 by omega] at st
  intro a b ha hb q
  exact (mk_iff ha hb).mp (st a b ha hb q)
noncomputable def LM (ps : List StT) : List Int := mk ps (ps.length + 1)
theorem LM_tells (h : POk ps) : Tells ps (vl (LM ps)) := Tells.of h (mk_coarse h _) (mk_goes h)
theorem LM_in {v : Int} (hv : In ps v) : In ps (vl (LM ps) v) ∧ vl (LM ps) (vl (LM ps) v) = vl (LM ps) v := by
  obtain ⟨ev, lv⟩ := in_nat hv
  unfold LM mk
  have a := ix_at (κ := lnF ps (mk ps ps.length)) lv
  rw [ev, vl_ix lv, vl_ix a.1, a.2]
  exact ⟨nat_in a.1, rfl⟩
theorem LM_0 (h : POk ps) : vl (LM ps) 0 = 0 := by
  have n0 : 0 < ps.length := by have := h.n; omega
  have := vl_ix (κ := lnF ps (mk ps ps.length)) n0
  unfold LM mk
  have e : (0 : Int) = ((0 : Nat) : Int) := rfl
  rw [e, this]
  obtain ⟨m, em⟩ : ∃ m, ps.length = m + 1 := ⟨ps.length - 1, by omega⟩
  have e2 : ksOf ps.length (lnF ps (mk ps ps.length)) = lnF ps (mk ps ps.length) 0 :: (List.range m).map (fun i => lnF ps (mk ps ps.length) (i + 1)) := by
    unfold ksOf
    rw [em, List.range_succ_eq_map]; simp [Function.comp_def]
  rw [e2, ix_head]
/-! the law's thin part -/
noncomputable def TH (ps : List StT) : List StT := ps.map (lineOf (vl (LM ps)))
theorem TH_len : (TH ps).length = ps.length := by simp [TH]
theorem TH_at {v : Int} (hv : In ps v) : staAt (TH ps) v = lineOf (vl (LM ps)) (staAt ps v) := by
  obtain ⟨ev, lv⟩ := in_nat hv
  unfold staAt TH
  rw [List.getElem?_map, List.getElem?_eq_getElem lv]; rfl
theorem TH_ok (h : POk ps) : POk (TH ps) where
  n := by rw [TH_len]; exact h.n
  s := by
    intro s hs
    rw [TH_len]
    obtain ⟨t, ht, rfl⟩ := List.mem_map.mp hs
    have so := h.s t ht
    exact line_ok so fun p hp => (LM_in (so.t p hp)).1
theorem TH_trim (h : POk ps) : trP (TH ps) = LP ps := by
  have C := L_cls h
  refine iso (TH_ok h) (vl (LG ps)) (fun v => In ps v ∧ vl (LM ps) v = v) ⟨in_0 h, LM_0 h⟩ C.z (fun v hv => by rw [In, TH_len]; exact hv.1) (fun v hv p hp => ?_) (fun a b ha hb e => ?_) (fun v hv => ?_)
  · rw [TH_at hv.1] at hp
    obtain ⟨q, hq, rfl⟩ := List.mem_map.mp hp
    exact LM_in (step_in h hv.1 (m := q.1) (a := q.2) hq)
  · have s := (C.t.iff a b ha.1 hb.1).mp e
    have := ((LM_tells h).iff a b ha.1 hb.1).mpr s
    rw [ha.2, hb.2] at this
    exact this
  · rw [TH_at hv.1]
    have e : staAt (LQ ps) (vl (LG ps) v) = lineOf (vl (LG ps)) (staAt ps v) := QP_v h C hv.1
    rw [e]
    unfold lineOf
    rw [List.map_map]
    simp only [Prod.mk.injEq, true_and]
    refine List.map_congr_left fun p hp => ?_
    simp only [Function.comp, Prod.mk.injEq, true_and]
    have ip := step_in h hv.1 (m := p.1) (a := p.2) hp
    have im := LM_in ip
    exact (C.t.iff _ _ im.1 ip).mpr (((LM_tells h).iff _ _ im.1 ip).mp im.2)
end Lw

namespace Lw
open PySem RT Wb
variable {ps qs : List StT} {g : List Int}
theorem vl_at {v : Int} (h0 : 0 ≤ v) (h1 : v < (g.length : Int)) : gAt (il g) (.int v) = some (.int (vl g v)) := by
  have hl : v.toNat < g.length := by omega
  refine atI_int h0 ?_
  unfold vl
  rw [List.getElem?_map, List.getElem?_eq_getElem hl]; rfl
theorem renG_eq {s : StT} {n : Nat} (so : StOk n s) (hg : g.length = n) : m_renamed_state [eSta s, il g] = some (eSta (lineOf (vl g) s)) := by
  refine mkF_rt (x := row0) rfl ?_
  have hl := so.l
  have c1 : sUnp (fVar 0) (gtTup 2 (gtCons (gtName 2) (gtCons (gtName 3) gtNil))) [.va (eSta s), .va (il g), .no, .no, .no, .no, .no, .no] row0 = some (.nx [.va (eSta s), .va (il g), .va (.bool s.1), .va (.tuple (s.2.map eSt)), .no, .no, .no, .no], row0) := rfl
  have l1 : fOfX (xLc (fSeq (fVar 3)) (gtTup 4 (gtCons (gtName 4) (gtCons (gtName 5) (gtCons (gtName 6) (gtCons (gtName 7) gtNil))))) tYesF (fTup (aCons (fVar 4) (aCons (fVar 5) (aCons (fVar 6) (aCons (fBin gAt (fBor 1) (fBor 7)) aNil))))) [4, 5, 6, 7]) [.va (eSta s), .va (il g), .va (.bool s.1), .va (.tuple (s.2.map eSt)), .no, .no, .no, .no] row0 = some (.list ((lineOf (vl g) s).2.map eSt), row0) := by
    rw [lineOf, List.map_map]
    refine lc_eq (ds := s.2.map eSt) (sqT (vV rfl)) (compL_map eSt _ s.2 fun p hp => ?_) (by rw [List.length_map]; exact nob_n (by omega))
    obtain ⟨k, o, w, e, _⟩ := so.e p hp
    have ht := so.t p hp
    refine ⟨[.va (eSta s), .va (il g), .va (.bool s.1), .va (.tuple (s.2.map eSt)), .va (.str k), .va (.int o), .va (.int w), .va (.int p.2)], ?_, rfl, ?_⟩
    · rw [eSt, e]; rfl
    · have q := fB (x := row0) (env := [.va (eSta s), .va (il g), .va (.bool s.1), .va (.tuple (s.2.map eSt)), .va (.str k), .va (.int o), .va (.int w), .va (.int p.2)]) (vB (i := 1) rfl) (vB (i := 7) rfl) (vl_at ht.1 (by rw [hg]; exact ht.2))
      have q2 := fTup_ok (aCons_eq (f := fVar 4) (vV rfl) (aCons_eq (f := fVar 5) (vV rfl) (aCons_eq (f := fVar 6) (vV rfl) (aCons1 q)))) (ml 4 (by omega))
      rw [q2]
      simp only [Function.comp, eSt, e]
      rfl
  show b_renamed_state [.va (eSta s), .va (il g), .no, .no, .no, .no, .no, .no] row0 = _
  unfold b_renamed_state
  rw [sSeq_nx c1]
  exact sR (fTup_ok (aC2 (vV rfl) (tupOf_ok l1)) two_ml)
/-! alike_groups -/
theorem max_gr (h : POk ps) (k : Nat) : gMax [il (gr ps k)] = some (.int ((cls ps k : Nat) - 1 : Int)) := by
  have n0 : 0 < ps.length := by have := h.n; omega
  have gen : ∀ {α : Type} [DecidableEq α] (κ : Nat → α), gr ps k = rkL (ksOf ps.length κ) → gMax [il (gr ps k)] = some (.int ((cls ps k : Nat) - 1 : Int)) := fun {α} _ κ e => by
    unfold cls
    rw [e, cnt_vl]
    refine max_rk ?_
    intro z
    have := congrArg List.length z
    rw [List.length_map, List.length_range] at this
    exact absurd this (by show ¬ ps.length = 0; omega)
  cases k with
  | zero => exact gen _ rfl
  | succ k => exact gen _ rfl
theorem whL_rt {t : FT} {b : FS} {n : Nat} {env : FEn} {x x1 x2 : FRow} {d : D} (h : t env x = some (true, x1)) (h' : b env x1 = some (.rt d, x2)) : whL t b (n + 1) env x = some (.rt d, x2) := by
  rw [whL, h]; simp only [h']
theorem whL_nx {t : FT} {b : FS} {n : Nat} {env e2 : FEn} {x x1 x2 : FRow} (h : t env x = some (true, x1)) (h' : b env x1 = some (.nx e2, x2)) : whL t b (n + 1) env x = whL t b n e2 x2 := by
  rw [whL, h]; simp only [h']
def agE (ps : List StT) (g : List Int) (p : FSl) : FEn := [.va (ePa ps), .va (il g), p, .no, .no, .no]
abbrev agB : FS := sSeq (sSet 2 (xVal (fCall m_numbered (aCons (fOfX (xLc (fRg1 (fCall gLen (aCons (fBor 0) aNil))) (gtName 5) tYesF (fTup (aCons (fBin gAt (fBor 1) (fBor 5)) (aCons (fCall m_renamed_state (aCons (fBin gAt (fBor 0) (fBor 5)) (aCons (fVar 1) aNil))) aNil))) [5])) aNil))))
    (sSeq (sIf (fTst (fBin gEq (fCall gMax (aCons (fBor 2) aNil)) (fCall gMax (aCons (fBor 1) aNil)))) (sRet (fVar 1)) sNil)
    (sSet 1 (xVal (fVar 2))))
theorem len_pa (ps : List StT) : gLen [ePa ps] = some (.int (ps.length : Nat)) := by simp [gLen, ePa]
theorem ag_fin (h : POk ps) (k : Nat) (p : FSl) : fCall m_numbered (aCons (fOfX (xLc (fRg1 (fCall gLen (aCons (fBor 0) aNil))) (gtName 5) tYesF (fTup (aCons (fBin gAt (fBor 1) (fBor 5)) (aCons (fCall m_renamed_state (aCons (fBin gAt (fBor 0) (fBor 5)) (aCons (fVar 1) aNil))) aNil))) [5])) aNil) (agE ps (gr ps k) p) row0 = some (il (gr ps (k + 1)), row0) := by
  have hn := h.n
  refine fK (aC1 (d := .list ((ksOf ps.length (keyP ps (gr ps k))).map eKey)) ?_) (num_keys (by simp; omega))
  rw [List.map_map]
  refine lc_eq (ds := (List.range ps.length).map fun (i : Nat) => D.int (i : Int)) ?_ (compL_map (fun (i : Nat) => D.int (i : Int)) _ _ fun i hi => ⟨_, rfl, rfl, ?_⟩) (by rw [List.length_map, List.length_range]; exact nob_n (by omega))
  · rw [← rgD_map]
    exact rg1 (fK (aC1 (vB rfl)) (len_pa ps)) (by omega)
  · have hi := List.mem_range.mp hi
    have iv := nat_in (ps := ps) hi
    have so := sta_ok' h iv
    exact fTup_ok (aC2 (fB (vB rfl) (vB rfl) (vl_at iv.1 (by rw [gr_len]; exact iv.2))) (fK (aC2 (fB (vB rfl) (vB rfl) (ePa_at iv.1 iv.2)) (vV rfl)) (renG_eq so (gr_len k)))) two_ml
theorem ag_loop (h : POk ps) {stop : Nat} (h1 : cls ps stop = cls ps (stop + 1)) (h2 : ∀ j, j < stop → cls ps j ≠ cls ps (j + 1)) : ∀ (d j : Nat) (p : FSl) (fuel : Nat), j + d = stop → d < fuel → whL (fTru (fC (.bool true))) agB fuel (agE ps (gr ps j) p) row0 = some (.rt (il (gr ps stop)), row0)
  | d, j, p, 0, _, hf => by omega
  | d, j, p, fuel + 1, hd, hf => by
    have t : fTru (fC (.bool true)) (agE ps (gr ps j) p) row0 = some (true, row0) := rfl
    have c1 : sSet 2 (xVal (fCall m_numbered (aCons (fOfX (xLc (fRg1 (fCall gLen (aCons (fBor 0) aNil))) (gtName 5) tYesF (fTup (aCons (fBin gAt (fBor 1) (fBor 5)) (aCons (fCall m_renamed_state (aCons (fBin gAt (fBor 0) (fBor 5)) (aCons (fVar 1) aNil))) aNil))) [5])) aNil))) (agE ps (gr ps j) p) row0 = some (.nx (agE ps (gr ps j) (.va (il (gr ps (j + 1))))), row0) := sV (ag_fin h j p)
    have q : fTst (fBin gEq (fCall gMax (aCons (fBor 2) aNil)) (fCall gMax (aCons (fBor 1) aNil))) (agE ps (gr ps j) (.va (il (gr ps (j + 1))))) row0 = some (decide (((cls ps (j + 1) : Nat) - 1 : Int) = ((cls ps j : Nat) - 1 : Int)), row0) := by
      have := fB (x := row0) (env := agE ps (gr ps j) (.va (il (gr ps (j + 1))))) (fK (aC1 (vB (i := 2) rfl)) (max_gr h (j + 1))) (fK (aC1 (vB (i := 1) rfl)) (max_gr h j)) (eq_int _ _)
      simp only [fTst, this]
    cases d with
    | zero =>
      have e : j = stop := by omega
      subst e
      rw [decide_eq_true (by rw [h1])] at q
      have b : agB (agE ps (gr ps j) p) row0 = some (.rt (il (gr ps j)), row0) := by
        unfold agB
        rw [sSeq_nx c1]
        simp only [sSeq, sIf, q, sR (vV (x := row0) (show (agE ps (gr ps j) (.va (il (gr ps (j + 1)))))[1]? = some (.va (il (gr ps j))) from rfl))]
      exact whL_rt t b
    | succ d =>
      have ne : ¬ ((cls ps (j + 1) : Nat) - 1 : Int) = ((cls ps j : Nat) - 1 : Int) := fun z => h2 j (by omega) (by omega)
      rw [decide_eq_false ne] at q
      have b : agB (agE ps (gr ps j) p) row0 = some (.nx (agE ps (gr ps (j + 1)) (.va (il (gr ps (j + 1))))), row0) := by
        unfold agB
        rw [sSeq_nx c1, sSeq_nx (if_no q)]
        exact sV (vV rfl)
      rw [whL_nx t b]
      exact ag_loop h h1 h2 d (j + 1) _ fuel (by omega) (by omega)
theorem alike_groups_eq (h : POk ps) : m_alike_groups [ePa ps] = some (il (LG ps)) := by
  refine mkF_rt (x := row0) rfl ?_
  have hn := h.n
  have c1 : sSet 1 (xVal (fCall m_numbered (aCons (fOfX (xLc (fSeq (fVar 0)) (gtTup 2 (gtCons (gtName 3) (gtCons (gtName 4) gtNil))) tYesF (fVar 3) [3, 4])) aNil))) [.va (ePa ps), .no, .no, .no, .no, .no] row0 = some (.nx (agE ps (gr ps 0) .no), row0) := by
    have l1 : fOfX (xLc (fSeq (fVar 0)) (gtTup 2 (gtCons (gtName 3) (gtCons (gtName 4) gtNil))) tYesF (fVar 3) [3, 4]) [.va (ePa ps), .no, .no, .no, .no, .no] row0 = some (.list ((ps.map (·.1)).map .bool), row0) := by
      rw [List.map_map]
      exact lc_eq (ds := ps.map eSta) (sqT (vV rfl)) (compL_map eSta _ ps fun s hs => ⟨[.va (ePa ps), .no, .no, .va (.bool s.1), .va (.tuple (s.2.map eSt)), .no], rfl, rfl, vV rfl⟩) (by rw [List.length_map]; exact nob_n (by omega))
    have l2 := fK (aC1 l1) (num_bools (by simp; omega))
    have e : rkL (ps.map (·.1)) = gr ps 0 := by rw [gr, ← range_sta (fun s => s.1)]
    rw [e] at l2
    exact sV l2
  show b_alike_groups [.va (ePa ps), .no, .no, .no, .no, .no] row0 = _
  unfold b_alike_groups
  rw [sSeq_nx c1]
  have sp := LK_spec (ps := ps)
  exact ag_loop h sp.2.1 sp.2.2 (LK ps) 0 .no 1000 (by omega) (by omega)
/-! least_part -/
theorem fewest_eq (h : POk ps) : m_part_of_fewest [ePa ps] = some (ePa (LP ps)) := by
  refine mkF_rt (x := row0) rfl ?_
  have C := L_cls h
  have hn := h.n
  have hc := C.c
  have c2 : sSet 1 (xVal (fCall m_alike_groups (aCons (fVar 0) aNil))) [.va (ePa ps), .no, .no, .no, .no] row0 = some (.nx [.va (ePa ps), .va (il (LG ps)), .no, .no, .no], row0) := sV (fK (aC1 (vV rfl)) (alike_groups_eq h))
  have c3 : sSet 2 ((fun f => xVal (fOfX f)) (xLc (fRg1 (fBin gAdd (fCall gMax (aCons (fBor 1) aNil)) (fC (.int 1)))) (gtName 3) tYesF (fIndex (fBor 1) (fBor 3)) [3])) [.va (ePa ps), .va (il (LG ps)), .no, .no, .no] row0 = some (.nx [.va (ePa ps), .va (il (LG ps)), .va (il ((List.range (LC ps)).map fun (j : Nat) => fstOf (LG ps) (j : Int))), .no, .no], row0) := by
    have l1 : fOfX (xLc (fRg1 (fBin gAdd (fCall gMax (aCons (fBor 1) aNil)) (fC (.int 1)))) (gtName 3) tYesF (fIndex (fBor 1) (fBor 3)) [3]) [.va (ePa ps), .va (il (LG ps)), .no, .no, .no] row0 = some (il ((List.range (LC ps)).map fun (j : Nat) => fstOf (LG ps) (j : Int)), row0) := by
      unfold il
      rw [List.map_map]
      refine lc_eq (ds := (List.range (LC ps)).map fun (i : Nat) => D.int (i : Int)) ?_ (compL_map (fun (i : Nat) => D.int (i : Int)) _ _ fun j hj => ⟨_, rfl, rfl, ?_⟩) (by rw [List.length_map, List.length_range]; exact nob_n (by omega))
      · rw [← rgD_map]
        refine rg1 (fB (fK (aC1 (vB rfl)) (max_gr h (LK ps))) rfl ?_) (by omega)
        show some (D.int _) = some (D.int _)
        have : ((cls ps (LK ps) : Nat) - 1 + 1 : Int) = ((LC ps : Nat) : Int) := by show ((cls ps (LK ps) : Nat) - 1 + 1 : Int) = ((cls ps (LK ps) : Nat) : Int); omega
        rw [this]
      · have hj := List.mem_range.mp hj
        have hm := C.hit j hj
        generalize hE : (wipeE [.va (ePa ps), .va (il (LG ps)), .no, .no, .no] [3]).set 3 (.va (D.int (j : Int))) = E
        have b1 : fBor 1 E row0 = some (il (LG ps), row0) := by rw [← hE]; rfl
        have b3 : fBor 3 E row0 = some (.int (j : Int), row0) := by rw [← hE]; rfl
        unfold fIndex
        refine fBin_eq b1 b3 ?_
        simp only [il, sh_ints, sh_int, Bool.and_self, if_true, idxD_int (j : Int) (LG ps) hm]
        rfl
    exact sV l1
  have l2 : fOfX (xLc (fSeq (fVar 2)) (gtName 4) tYesF (fCall m_renamed_state (aCons (fBin gAt (fBor 0) (fBor 4)) (aCons (fVar 1) aNil))) [4]) [.va (ePa ps), .va (il (LG ps)), .va (il ((List.range (LC ps)).map fun (j : Nat) => fstOf (LG ps) (j : Int))), .no, .no] row0 = some (.list ((LQ ps).map eSta), row0) := by
    have e : (LQ ps).map eSta = ((List.range (LC ps)).map fun (j : Nat) => fstOf (LG ps) (j : Int)).map fun v => eSta (lineOf (vl (LG ps)) (staAt ps v)) := by
      unfold LQ QP
      rw [List.map_map, List.map_map]; rfl
    rw [e]
    refine lc_eq (ds := ((List.range (LC ps)).map fun (j : Nat) => fstOf (LG ps) (j : Int)).map .int) (sqL (vV rfl)) (compL_map D.int _ _ fun v hv => ⟨_, rfl, rfl, ?_⟩) (by rw [List.length_map, List.length_map, List.length_range]; exact nob_n (by omega))
    obtain ⟨j, hj, rfl⟩ := List.mem_map.mp hv
    have hj := List.mem_range.mp hj
    have f := (fst_in C (j := (j : Int)) ⟨by omega, by omega⟩).1
    exact fK (aC2 (fB (vB rfl) (vB rfl) (ePa_at f.1 f.2)) (vV rfl)) (renG_eq (sta_ok' h f) C.len)
  show b_part_of_fewest [.va (ePa ps), .no, .no, .no, .no] row0 = _
  unfold b_part_of_fewest
  rw [sSeq_nx c2, sSeq_nx c3]
  exact sR (fK (aC1 (tupOf_ok l2)) (come2_eq (QP_ok h C)))
theorem least_part_eq (h : POk ps) : m_least_part [ePa ps] = some (ePa (LP ps)) := by
  refine mkF_rt (x := row0) rfl ?_
  show b_least_part [.va (ePa ps)] row0 = _
  unfold b_least_part
  rw [sSeq_nx (dropP h)]
  exact sR (fK (aC1 (vV rfl)) (fewest_eq h))
end Lw

namespace Lw
open PySem RT Wb
variable {ps qs : List StT}
/-! equality of parts as data -/
theorem eqv_key (a b : L2.Key) : PyData.eqv (keyD a).py (keyD b).py = decide (a = b) := by
  cases a <;> cases b <;> simp [keyD, D.py, PyData.eqv] <;> first | rfl | (rw [Bool.eq_iff_iff]; simp)
theorem eqv_map {α : Type} [DecidableEq α] {enc : α → D} (h : ∀ a b, PyData.eqv (enc a).py (enc b).py = decide (a = b)) : ∀ l m : List α, PyData.eqvAll (pyAll (l.map enc)) (pyAll (m.map enc)) = decide (l = m)
  | [], [] => by simp [pyAll, PyData.eqvAll]
  | [], b :: m => by simp [pyAll, PyData.eqvAll]
  | a :: l, [] => by simp [pyAll, PyData.eqvAll]
  | a :: l, b :: m => by
    rw [List.map_cons, List.map_cons, pyAll, pyAll, PyData.eqvAll, h a b, eqv_map h l m, ← Bool.decide_and]
    simp only [List.cons.injEq]
theorem eqv_st (a b : Mk × Int) : PyData.eqv (eSt a).py (eSt b).py = decide (a = b) := by
  have e : ∀ p : Mk × Int, eSt p = .tuple ((p.1 ++ [(Sum.inl p.2 : L2.Key)]).map keyD) := fun p => by rw [eSt, List.map_append]; rfl
  rw [e a, e b, D.py, D.py, PyData.eqv, eqv_map eqv_key]
  refine decide_eq_decide.mpr ⟨fun h => ?_, fun h => by rw [h]⟩
  have h' := List.append_inj' h rfl
  have h2 := h'.2
  simp only [List.cons.injEq, Sum.inl.injEq, and_true] at h2
  exact Prod.ext h'.1 h2
theorem eqv_sta (a b : StT) : PyData.eqv (eSta a).py (eSta b).py = decide (a = b) := by
  have e := eqv_map eqv_st a.2 b.2
  simp only [eSta, D.py, pyAll, PyData.eqv, PyData.eqvAll, e, Bool.and_true]
  rw [← Bool.decide_eq_true (b := (a.1 == b.1)), ← Bool.decide_and]
  refine decide_eq_decide.mpr ⟨fun h => Prod.ext (by simpa using h.1) h.2, fun h => by rw [h]; simp⟩
theorem eqv_pa (a b : List StT) : eqD (ePa a) (ePa b) = decide (a = b) := by
  unfold eqD ePa
  rw [D.py, D.py, PyData.eqv, eqv_map eqv_sta]
theorem pt_st {p : Mk × Int} (h : evOk p.1) : Pt 1 (eSt p) := by
  obtain ⟨k, o, w, e, hk, _⟩ := h
  refine Or.inr ⟨_, Or.inl rfl, by rw [e]; simp, fun d hd => ?_⟩
  rw [e] at hd
  simp only [List.map_cons, List.map_nil, List.cons_append, List.nil_append, List.mem_cons, List.not_mem_nil, or_false, keyD] at hd
  rcases hd with rfl | rfl | rfl | rfl
  · exact Or.inr (Or.inr (Or.inl ⟨k, rfl, str_ok hk⟩))
  · exact Or.inr (Or.inl ⟨_, rfl⟩)
  · exact Or.inr (Or.inl ⟨_, rfl⟩)
  · exact Or.inr (Or.inl ⟨_, rfl⟩)
theorem pt_sta2 {s : StT} (hl : s.2.length ≤ 2) (he : ∀ p ∈ s.2, evOk p.1) : Pt 3 (eSta s) := by
  refine Or.inr ⟨_, Or.inl rfl, by simp, fun d hd => ?_⟩
  simp only [List.mem_cons, List.not_mem_nil, or_false] at hd
  rcases hd with rfl | rfl
  · exact Pt.le (k := 0) (Or.inr (Or.inr (Or.inr ⟨_, rfl⟩))) (by omega)
  · refine Or.inr ⟨_, Or.inl rfl, by rw [List.length_map]; omega, fun d hd => ?_⟩
    obtain ⟨p, hp, rfl⟩ := List.mem_map.mp hd
    exact pt_st (he p hp)
theorem pt_sta {n : Nat} {s : StT} (h : StOk n s) : Pt 3 (eSta s) := pt_sta2 h.l h.e
theorem pt_line {n : Nat} {s : StT} (h : StOk n s) (f : Int → Int) : Pt 3 (eSta (lineOf f s)) := pt_sta2 (by simp only [lineOf, List.length_map]; exact h.l) fun q hq => by
  obtain ⟨p, hp, rfl⟩ := List.mem_map.mp hq
  exact h.e p hp
theorem pt_pa (h : POk ps) : Pt 5 (ePa ps) := by
  refine Pt.le (k := 4) (Or.inr ⟨_, Or.inl rfl, by rw [List.length_map]; have := h.n; omega, fun d hd => ?_⟩) (by omega)
  obtain ⟨s, hs, rfl⟩ := List.mem_map.mp hd
  exact pt_sta (h.s s hs)
theorem eq_pa (h : POk ps) (k : POk qs) : gEq (ePa ps) (ePa qs) = some (.bool (decide (ps = qs))) := by
  unfold gEq
  rw [Pt.sh (pt_pa h) (by omega), Pt.sh (pt_pa k) (by omega), eqv_pa]; rfl
theorem ne_pa (h : POk ps) (k : POk qs) : gNe (ePa ps) (ePa qs) = some (.bool (!decide (ps = qs))) := by
  unfold gNe
  rw [Pt.sh (pt_pa h) (by omega), Pt.sh (pt_pa k) (by omega), eqv_pa]; rfl
theorem same_parts_eq (h : POk ps) (k : POk qs) : m_same_parts [ePa ps, ePa qs] = some (.bool (decide (LP ps = LP qs))) := by
  refine mkF_rt (x := row0) rfl ?_
  show b_same_parts [.va (ePa ps), .va (ePa qs)] row0 = _
  unfold b_same_parts
  exact sR (fB (fK (aC1 (vV rfl)) (least_part_eq h)) (fK (aC1 (vV rfl)) (least_part_eq k)) (eq_pa (lp_ok h) (lp_ok k)))
theorem count_states_eq (h : POk ps) : m_count_states [ePa ps] = some (.int ((LP ps).length : Nat)) := by
  refine mkF_rt (x := row0) rfl ?_
  show b_count_states [.va (ePa ps)] row0 = _
  unfold b_count_states
  exact sR (fK (aC1 (fK (aC1 (vV rfl)) (least_part_eq h))) (len_pa _))
/-! the law's marks -/
theorem ix_cons {α : Type} [DecidableEq α] {a t : α} {l : List α} (h : a ≠ t) : (a :: l).idxOf t = l.idxOf t + 1 := by
  have : (a == t) = false := by simpa using h
  rw [List.idxOf_cons, this]; rfl
theorem idxD_map {α : Type} [DecidableEq α] {enc : α → D} (h : ∀ a b, PyData.eqv (enc a).py (enc b).py = decide (a = b)) (t : α) : ∀ l : List α, t ∈ l → idxD (enc t) (l.map enc) = some (l.idxOf t)
  | [], h => nomatch h
  | a :: l, hm => by
    rw [List.map_cons, idxD, show eqD (enc a) (enc t) = decide (a = t) from h a t]
    by_cases c : a = t
    · subst c; rw [ix_head]; simp
    · have hm' : t ∈ l := (List.mem_cons.mp hm).resolve_left fun e => c e.symm
      rw [idxD_map h t l hm', ix_cons c]; simp [c]
theorem rep0 {n : Nat} (hn : n ≤ 1000) : gMul (.list [.int 0]) (.int (n : Int)) = some (il (List.replicate n 0)) := by
  have : gMul (.list [.int 0]) (.int (n : Int)) = gRepL (.list [.int 0]) (.int (n : Int)) := rfl
  rw [this]
  have c : 0 ≤ (n : Int) ∧ (n : Int) ≤ 1000 ∧ [D.int 0].length ≤ 1000 := ⟨by omega, by omega, by simp⟩
  simp only [gRepL, if_pos c, Int.toNat_natCast]
  have : (List.replicate n [D.int 0]).flatten = (List.replicate n 0).map D.int := by
    rw [List.map_replicate]
    induction n with
    | zero => rfl
    | succ n ih => rw [List.replicate_succ, List.flatten_cons, ih (by omega) rfl ⟨by omega, by omega, by simp⟩, List.replicate_succ]; rfl
  rw [this]
/-- a line's text in the law: the state at slot i, the marks at slot 1, the step at slot j -/
abbrev lnLc (i j : Nat) : FE := fOfX (xLc (fSeq (fBin gAt (fBor i) (fC (.int 1)))) (gtName j) tYesF (fBin gAdd (fSl (fBor j) oNone (oSome (fC (.int 3)))) (fTup (aCons (fBin gAt (fBor 1) (fBin gAt (fBor j) (fC (.int 3)))) aNil))) [j])
abbrev lnEl (i j : Nat) : FE := fTup (aCons (fBin gAt (fBor i) (fC (.int 0))) (aCons (fCall gTupOf (aCons (lnLc i j) aNil)) aNil))
theorem ln_el {i j : Nat} {E : FEn} {s : StT} {n : Nat} {m : List Int} (so : StOk n s) (hm : m.length = n) (hij : i ≠ j) (h1j : 1 ≠ j) (hj : j < E.length) (hs : E[i]? = some (.va (eSta s))) (h1 : E[1]? = some (.va (il m))) (x : FRow) : lnEl i j E x = some (eSta (lineOf (vl m) s), x) := by
  have l1 : lnLc i j E x = some (.list ((lineOf (vl m) s).2.map eSt), x) := by
    rw [lineOf, List.map_map]
    refine lc_eq (ds := s.2.map eSt) (sqT (fB (vB hs) rfl (eSta_1 s))) (compL_map eSt _ _ fun p hp => ⟨_, rfl, rfl, ?_⟩) (by rw [List.length_map]; exact nob_n (by have := so.l; omega))
    generalize hE : (wipeE E [j]).set j (.va (eSt p)) = F
    have bj : fBor j F x = some (eSt p, x) := vB (by rw [← hE]; simp [wipeE, hj])
    have b1 : fBor 1 F x = some (il m, x) := vB (by rw [← hE]; simp [wipeE, List.getElem?_set_ne (Ne.symm h1j), h1])
    have hp' := so.e p hp
    have ht := so.t p hp
    have a2 : fBin gAt (fBor j) (fC (.int 3)) F x = some (.int p.2, x) := fB bj rfl (eSt_3 hp')
    exact fB (sl3 hp' bj) (fTup_ok (aC1 (fB b1 a2 (vl_at ht.1 (by rw [hm]; exact ht.2)))) one_ml) (eSt_cat (p := (p.1, vl m p.2)) hp')
  exact fTup_ok (aC2 (fB (vB hs) rfl (eSta_0 s)) (tupOf_ok l1)) two_ml
def mkE (ps : List StT) (m : List Int) (p2 p3 : FSl) : FEn := [.va (ePa ps), .va (il m), p2, p3, .no, .no, .no]
theorem mk_turn (h : POk ps) (k : Nat) (p2 p3 : FSl) (x : FRow) : (sSeq (sSet 3 (xVal (fOfX (xLc (fSeq (fVar 0)) (gtName 4) tYesF (lnEl 4 6) [4]))))
    (sSet 1 (xVal (fOfX (xLc (fSeq (fVar 3)) (gtName 5) tYesF (fIndex (fBor 3) (fBor 5)) [5]))))) (mkE ps (mk ps k) p2 p3) x = some (.nx (mkE ps (mk ps (k + 1)) p2 (.va (.list ((ksOf ps.length (lnF ps (mk ps k))).map eSta)))), x) := by
  have hn := h.n
  have e1 : ksOf ps.length (lnF ps (mk ps k)) = ps.map (lineOf (vl (mk ps k))) := (range_sta (lineOf (vl (mk ps k)))).symm
  have c1 : sSet 3 (xVal (fOfX (xLc (fSeq (fVar 0)) (gtName 4) tYesF (lnEl 4 6) [4]))) (mkE ps (mk ps k) p2 p3) x = some (.nx (mkE ps (mk ps k) p2 (.va (.list ((ksOf ps.length (lnF ps (mk ps k))).map eSta)))), x) := by
    rw [e1, List.map_map]
    exact sV (lc_eq (ds := ps.map eSta) (sqT (vV rfl)) (compL_map eSta _ ps fun s hs => ⟨_, rfl, rfl, ln_el (h.s s hs) (mk_len k) (by omega) (by omega) (by simp [mkE, wipeE]) rfl rfl x⟩) (by rw [List.length_map]; exact nob_n (by omega)))
  rw [sSeq_nx c1]
  generalize hL : ksOf ps.length (lnF ps (mk ps k)) = L
  have hLl : L.length = ps.length := by rw [← hL]; simp
  have sh : shapedD (.list (L.map eSta)) = true := by
    refine Pt.sh (k := 4) (pt_list (by rw [List.length_map]; omega) fun d hd => ?_) (by omega)
    obtain ⟨s, hs, rfl⟩ := List.mem_map.mp hd
    rw [← hL, e1] at hs
    obtain ⟨t, ht, rfl⟩ := List.mem_map.mp hs
    exact pt_line (h.s t ht) _
  have c2 : fOfX (xLc (fSeq (fVar 3)) (gtName 5) tYesF (fIndex (fBor 3) (fBor 5)) [5]) (mkE ps (mk ps k) p2 (.va (.list (L.map eSta)))) x = some (il (ixL L), x) := by
    unfold il ixL
    rw [List.map_map]
    refine lc_eq (ds := L.map eSta) (sqL (vV rfl)) (compL_map eSta _ L fun s hs => ⟨_, rfl, rfl, ?_⟩) (by rw [List.length_map]; exact nob_n (by omega))
    generalize hE : (wipeE (mkE ps (mk ps k) p2 (.va (.list (L.map eSta)))) [5]).set 5 (.va (eSta s)) = E
    have b3 : fBor 3 E x = some (.list (L.map eSta), x) := by rw [← hE]; rfl
    have b5 : fBor 5 E x = some (eSta s, x) := by rw [← hE]; rfl
    have sh2 : shapedD (eSta s) = true := by
      rw [← hL, e1] at hs
      obtain ⟨t, ht, rfl⟩ := List.mem_map.mp hs
      exact Pt.sh (pt_line (h.s t ht) _) (by omega)
    unfold fIndex
    refine fBin_eq b3 b5 ?_
    simp only [sh, sh2, Bool.and_self, if_true, idxD_map eqv_sta s L hs, Function.comp]
  have e2 : mk ps (k + 1) = ixL L := by rw [mk, hL]
  rw [e2]
  exact sV c2
theorem law_marks_eq (h : POk ps) : m_law_marks [ePa ps] = some (il (LM ps)) := by
  refine mkF_rt (x := row0) rfl ?_
  have hn := h.n
  have c1 : sSet 1 (xVal (fBin gMul (fLst (aCons (fC (.int 0)) aNil)) (fCall gLen (aCons (fBor 0) aNil)))) [.va (ePa ps), .no, .no, .no, .no, .no, .no] row0 = some (.nx (mkE ps (mk ps 0) .no .no), row0) :=
    sV (fB (fLst_ok (aC1 rfl) one_ml) (fK (aC1 (vB rfl)) (len_pa ps)) (rep0 (by omega)))
  have r : fRg1 (fBin gAdd (fCall gLen (aCons (fBor 0) aNil)) (fC (.int 1))) (mkE ps (mk ps 0) .no .no) row0 = some (rgD 0 (ps.length + 1), row0) := rg1 (fB (fK (aC1 (vB rfl)) (len_pa ps)) rfl rfl) (by omega)
  obtain ⟨E, g1, g2⟩ := forL_rg (gt := gtName 2) (x := row0) (ps.length + 1) (fun j env => ∃ p2 p3, env = mkE ps (mk ps j) p2 p3) (mkE ps (mk ps 0) .no .no) ⟨_, _, rfl⟩ (b := sSeq (sSet 3 (xVal (fOfX (xLc (fSeq (fVar 0)) (gtName 4) tYesF (lnEl 4 6) [4]))))
    (sSet 1 (xVal (fOfX (xLc (fSeq (fVar 3)) (gtName 5) tYesF (fIndex (fBor 3) (fBor 5)) [5]))))) (by
      rintro j hj _ ⟨p2, p3, rfl⟩
      exact ⟨mkE ps (mk ps j) (.va (.int (j : Nat))) p3, _, rfl, mk_turn h j _ _ row0, ⟨_, _, rfl⟩⟩)
  obtain ⟨p2, p3, rfl⟩ := g2
  show b_law_marks [.va (ePa ps), .no, .no, .no, .no, .no, .no] row0 = _
  unfold b_law_marks
  rw [sSeq_nx c1, sSeq_nx (for_eq r g1)]
  exact sR (vV rfl)
end Lw

namespace Lw
open PySem RT Wb
variable {ps qs : List StT}
theorem laT_at {ts : List StT} {v : Int} (h0 : 0 ≤ v) (h1 : v < (ts.length : Int)) : gAt (.list (ts.map eSta)) (.int v) = some (eSta (staAt ts v)) := by
  have hl : v.toNat < ts.length := by omega
  refine atI_int h0 ?_
  unfold staAt
  rw [List.getElem?_map, List.getElem?_eq_getElem hl]; rfl
noncomputable def tE (ps : List StT) (O : List Int) (c : Int) (p2 s6 s7 : FSl) : FEn := [.va (ePa ps), .va (il (LM ps)), p2, .va (.list ((TH ps).map eSta)), .va (il O), .va (.int c), s6, s7, .no]
abbrev tIn : FS := sSet 4 (xVal (fBin gAdd (fBor 4) (fBin gMul (fLst (aCons (fBin gAt (fBor 2) (fC (.int 3))) aNil)) (fCall gInt (aCons (fBin gNotInA (fBin gAt (fBor 2) (fC (.int 3))) (fBor 4)) aNil)))))
theorem t_step {O : List Int} {c : Int} {p : Mk × Int} {s6 s7 : FSl} (hp : evOk p.1) (hO : O.length ≤ 100) (x : FRow) : tIn (tE ps O c (.va (eSt p)) s6 s7) x = some (.nx (tE ps (Bf.adds O [p.2]) c (.va (eSt p)) s6 s7), x) := by
  have g3 : fBin gAt (fBor 2) (fC (.int 3)) (tE ps O c (.va (eSt p)) s6 s7) x = some (.int p.2, x) := fB (vB rfl) rfl (eSt_3 hp)
  have q1 : fCall gInt (aCons (fBin gNotInA (fBin gAt (fBor 2) (fC (.int 3))) (fBor 4)) aNil) (tE ps O c (.va (eSt p)) s6 s7) x = some (.int (if (!decide (p.2 ∈ O)) then 1 else 0), x) := fK (aC1 (fB g3 (vB rfl) (notin_ints p.2 O))) rfl
  have q2 := fB (fLst_ok (aC1 g3) one_ml) q1 (rep_eq p.2 (decide (p.2 ∈ O)))
  have e : O ++ (if decide (p.2 ∈ O) = true then [] else [p.2]) = Bf.adds O [p.2] := by
    rw [Bf.adds_cons, Bf.adds_nil]
    by_cases c : p.2 ∈ O <;> simp [c]
  have q3 := fB (vB (x := x) (show (tE ps O c (.va (eSt p)) s6 s7)[4]? = some (.va (il O)) from rfl)) q2 (cat_il O _ (by
    have : (if decide (p.2 ∈ O) = true then ([] : List Int) else [p.2]).length ≤ 1 := by split <;> simp
    exact Nat.le_trans (Nat.add_le_add_left this _) (ml _ (by omega))))
  rw [e] at q3
  exact sV q3
theorem t_inner (x : FRow) {c : Int} {s6 s7 : FSl} : ∀ (st : List (Mk × Int)), (∀ p ∈ st, evOk p.1) → ∀ (O : List Int) (p : FSl), O.length + st.length ≤ 100 → ∃ p', forL (gtName 2) tIn (st.map eSt) (tE ps O c p s6 s7) x = some (.nx (tE ps (Bf.adds O (st.map (·.2))) c p' s6 s7), x)
  | [], _, O, p, _ => ⟨p, rfl⟩
  | a :: st, h, O, p, hl => by
    simp only [List.length_cons] at hl
    have h1 := adds1_len O a.2
    obtain ⟨p', ih⟩ := t_inner x (c := c) (s6 := s6) (s7 := s7) st (fun z hz => h z (by simp [hz])) (Bf.adds O [a.2]) (.va (eSt a)) (by omega)
    refine ⟨p', ?_⟩
    rw [List.map_cons, forL, show gtName 2 (eSt a) (tE ps O c p s6 s7) = some (tE ps O c (.va (eSt a)) s6 s7) from rfl]
    simp only [t_step (ps := ps) (h a (by simp)) (show O.length ≤ 100 by omega) x]
    exact ih
theorem stepsT (h : POk (TH ps)) {v : Int} (hv : 0 ≤ v ∧ v < ((TH ps).length : Int)) {f g : FE} {env : FEn} {x : FRow} (hf : f env x = some (.list ((TH ps).map eSta), x)) (hg : g env x = some (.int v, x)) : fBin gAt (fBin gAt f g) (fC (.int 1)) env x = some (.tuple ((staAt (TH ps) v).2.map eSt), x) :=
  fB (fB hf hg (laT_at hv.1 hv.2)) rfl (eSta_1 _)
abbrev tWh : FS := whL (tAndF (fTst (fBin gLtX (fBor 5) (fCall gLen (aCons (fBor 4) aNil)))) (fTst (fBin gLtX (fBor 5) (fC (.int 70))))) (sSeq (sFor (fSeq (fBin gAt (fBin gAt (fBor 3) (fBin gAt (fBor 4) (fBor 5))) (fC (.int 1)))) (gtName 2) tIn)
    (sSet 5 (xVal (fBin gAdd (fBor 5) (fC (.int 1)))))) 1000
theorem t_order (h : POk (TH ps)) {p0 s6 s7 : FSl} : ∃ c p, tWh (tE ps [0] 0 p0 s6 s7) row0 = some (.nx (tE ps (OP (TH ps)) c p s6 s7), row0) := by
  have Wk := web_ok h.web
  have hm := h.web.n
  have hv := z_in h.web
  obtain ⟨stop, hs1, hs2, hs3⟩ := first_ex (P := fun j => (Bf.bf (G (wP (TH ps))) 0 j).length ≤ j) 8 (by have := Bf.bf_len hv Wk.to 8; omega)
  have hO : ∀ j, (Bf.bf (G (wP (TH ps))) 0 j).length ≤ 8 := fun j => by have := Bf.bf_len hv Wk.to j; omega
  have tst : ∀ (j : Nat) (p : FSl), j ≤ 8 → tAndF (fTst (fBin gLtX (fBor 5) (fCall gLen (aCons (fBor 4) aNil)))) (fTst (fBin gLtX (fBor 5) (fC (.int 70)))) (tE ps (Bf.bf (G (wP (TH ps))) 0 j) j p s6 s7) row0 = some (decide ((j : Int) < ((Bf.bf (G (wP (TH ps))) 0 j).length : Int)), row0) := fun j p hj => by
    have q1 : fBin gLtX (fBor 5) (fCall gLen (aCons (fBor 4) aNil)) (tE ps (Bf.bf (G (wP (TH ps))) 0 j) j p s6 s7) row0 = some (.bool (decide ((j : Int) < ((Bf.bf (G (wP (TH ps))) 0 j).length : Int))), row0) := fB (vB rfl) (fK (r := .int ((Bf.bf (G (wP (TH ps))) 0 j).length : Nat)) (aC1 (vB rfl)) (by simp only [gLen, il, List.length_map])) rfl
    have q2 : fBin gLtX (fBor 5) (fC (.int 70)) (tE ps (Bf.bf (G (wP (TH ps))) 0 j) j p s6 s7) row0 = some (.bool (decide ((j : Int) < 70)), row0) := fB (vB rfl) rfl rfl
    have h70 : decide ((j : Int) < 70) = true := by simp only [decide_eq_true_eq]; omega
    rw [h70] at q2
    simp only [tAndF, fTst, q1]
    cases decide ((j : Int) < ((Bf.bf (G (wP (TH ps))) 0 j).length : Int)) with
    | true => simp only [q2]
    | false => rfl
  obtain ⟨e2, h1, p, h2⟩ := whL_inv (t := tAndF (fTst (fBin gLtX (fBor 5) (fCall gLen (aCons (fBor 4) aNil)))) (fTst (fBin gLtX (fBor 5) (fC (.int 70))))) (b := sSeq (sFor (fSeq (fBin gAt (fBin gAt (fBor 3) (fBin gAt (fBor 4) (fBor 5))) (fC (.int 1)))) (gtName 2) tIn)
    (sSet 5 (xVal (fBin gAdd (fBor 5) (fC (.int 1)))))) (x := row0) (fun j env => j ≤ 8 ∧ ∃ p, env = tE ps (Bf.bf (G (wP (TH ps))) 0 j) j p s6 s7) stop (by
      rintro j _ ⟨hj8, p, rfl⟩ hj
      have hlt : j < (Bf.bf (G (wP (TH ps))) 0 j).length := by have := hs3 j hj; omega
      have hz : (Bf.bf (G (wP (TH ps))) 0 j)[j]? = some (Bf.bf (G (wP (TH ps))) 0 j)[j] := List.getElem?_eq_getElem hlt
      have hu := Bf.bf_in (fun x => 0 ≤ x ∧ x < ((wP (TH ps)).length : Int)) hv Wk.to j _ (List.getElem_mem hlt)
      generalize hue : (Bf.bf (G (wP (TH ps))) 0 j)[j] = u at hz hu
      rw [wP_len] at hu
      have hstep : Bf.bf (G (wP (TH ps))) 0 (j + 1) = Bf.adds (Bf.bf (G (wP (TH ps))) 0 j) (G (wP (TH ps)) u) := by rw [Bf.bf, hz]
      constructor
      · rw [tst j p hj8, decide_eq_true (by omega)]
      · have ha : gAt (il (Bf.bf (G (wP (TH ps))) 0 j)) (.int (j : Int)) = some (.int u) := atI_nat (by rw [List.getElem?_map, hz]; rfl)
        have so := sta_in h hu
        obtain ⟨p', e⟩ := t_inner (ps := ps) row0 (c := (j : Int)) (s6 := s6) (s7 := s7) (staAt (TH ps) u).2 so.e (Bf.bf (G (wP (TH ps))) 0 j) p (by have := hO j; have := so.l; omega)
        have c2 : fSeq (fBin gAt (fBin gAt (fBor 3) (fBin gAt (fBor 4) (fBor 5))) (fC (.int 1))) (tE ps (Bf.bf (G (wP (TH ps))) 0 j) j p s6 s7) row0 = some ((staAt (TH ps) u).2.map eSt, row0) := sqT (stepsT h hu (vB rfl) (fB (vB rfl) (vB rfl) ha))
        have hG : G (wP (TH ps)) u = (staAt (TH ps) u).2.map (·.2) := by rw [G, stp_wP]
        rw [← hG, ← hstep] at e
        refine ⟨tE ps (Bf.bf (G (wP (TH ps))) 0 (j + 1)) (j + 1 : Nat) p' s6 s7, ?_, by omega, _, rfl⟩
        rw [sSeq_nx (for_eq c2 e)]
        exact sV (fB (vB rfl) rfl rfl)) (by
      rintro _ ⟨h8, p, rfl⟩
      rw [tst stop p h8, decide_eq_false (by omega)]) 1000 0 (tE ps [0] 0 p0 s6 s7) ⟨by omega, _, rfl⟩ (by omega) (by omega)
  obtain ⟨q, rfl⟩ := h2
  rw [Bf.ord_end Wk hv hs2] at h1
  exact ⟨_, _, h1⟩
abbrev tdLc : FE := fOfX (xLc (fSeq (fBin gAt (fBin gAt (fBor 3) (fBor 7)) (fC (.int 1)))) (gtName 2) tYesF (fBin gAdd (fSl (fBor 2) oNone (oSome (fC (.int 3)))) (fTup (aCons (fIndex (fBor 4) (fBin gAt (fBor 2) (fC (.int 3)))) aNil))) [2])
abbrev tdEl : FE := fTup (aCons (fBin gAt (fBin gAt (fBor 3) (fBor 7)) (fC (.int 0))) (aCons (fCall gTupOf (aCons tdLc aNil)) aNil))
theorem td_el (h : POk (TH ps)) {c : Int} {p2 s6 : FSl} {v : Int} (hv : v ∈ OP (TH ps)) (x : FRow) : tdEl (tE ps (OP (TH ps)) c p2 s6 (.va (.int v))) x = some (eSta (rnS (OP (TH ps)) (staAt (TH ps) v)), x) := by
  have hv' := OP_in h v hv
  have so := sta_ok h hv
  have l1 : tdLc (tE ps (OP (TH ps)) c p2 s6 (.va (.int v))) x = some (.list ((rnS (OP (TH ps)) (staAt (TH ps) v)).2.map eSt), x) := by
    rw [rnS, List.map_map]
    refine lc_eq (ds := (staAt (TH ps) v).2.map eSt) (sqT (stepsT h hv' (vB rfl) (vB rfl))) (compL_map eSt _ _ fun p hp => ⟨_, rfl, rfl, ?_⟩) (by rw [List.length_map]; exact nob_n (by have := so.l; omega))
    generalize hE : (wipeE (tE ps (OP (TH ps)) c p2 s6 (.va (.int v))) [2]).set 2 (.va (eSt p)) = E
    have b7 : fBor 2 E x = some (eSt p, x) := by rw [← hE]; rfl
    have b4 : fBor 4 E x = some (il (OP (TH ps)), x) := by rw [← hE]; rfl
    have hp' := so.e p hp
    have a2 : fBin gAt (fBor 2) (fC (.int 3)) E x = some (.int p.2, x) := fB b7 rfl (eSt_3 hp')
    have ix : fIndex (fBor 4) (fBin gAt (fBor 2) (fC (.int 3))) E x = some (.int (Bf.idx (OP (TH ps)) p.2), x) := by
      unfold fIndex
      refine fBin_eq b4 a2 ?_
      simp only [il, sh_ints, sh_int, Bool.and_self, if_true, idxD_int p.2 (OP (TH ps)) (OP_go h hv p hp), Bf.idx]
    exact fB (sl3 hp' b7) (fTup_ok (aC1 ix) one_ml) (eSt_cat (p := (p.1, Bf.idx (OP (TH ps)) p.2)) hp')
  exact fTup_ok (aC2 (fB (fB (vB rfl) (vB rfl) (laT_at hv'.1 hv'.2)) rfl (eSta_0 _)) (tupOf_ok l1)) two_ml
theorem td_loop (h : POk (TH ps)) {c : Int} {p2 : FSl} (x : FRow) : ∀ (l : List Int), (∀ v ∈ l, v ∈ OP (TH ps)) → ∀ (due : List StT) (s7 : FSl), due.length + l.length ≤ 1000 → ∃ s7', forL (gtName 7) (sApp 6 tdEl) (l.map .int) (tE ps (OP (TH ps)) c p2 (.ow (.lst (due.map eSta))) s7) x = some (.nx (tE ps (OP (TH ps)) c p2 (.ow (.lst ((due ++ l.map fun v => rnS (OP (TH ps)) (staAt (TH ps) v)).map eSta))) s7'), x)
  | [], _, due, s7, _ => ⟨s7, by simp only [List.map_nil, List.append_nil]; rfl⟩
  | v :: l, hl, due, s7, hn => by
    simp only [List.length_cons] at hn
    have c1 := sA (td_el h (c := c) (p2 := p2) (s6 := .ow (.lst (due.map eSta))) (hl v (by simp)) x) (i := 6) (ds := due.map eSta) rfl (by rw [List.length_map]; omega)
    obtain ⟨s7', ih⟩ := td_loop h (c := c) (p2 := p2) x l (fun z hz => hl z (by simp [hz])) (due ++ [rnS (OP (TH ps)) (staAt (TH ps) v)]) (.va (.int v)) (by rw [List.length_append, List.length_singleton]; omega)
    refine ⟨s7', ?_⟩
    rw [List.map_cons, forL, show gtName 7 (D.int v) (tE ps (OP (TH ps)) c p2 (.ow (.lst (due.map eSta))) s7) = some (tE ps (OP (TH ps)) c p2 (.ow (.lst (due.map eSta))) (.va (.int v))) from rfl]
    simp only [c1]
    have ee : due ++ (rnS (OP (TH ps)) (staAt (TH ps) v) :: l.map fun v => rnS (OP (TH ps)) (staAt (TH ps) v)) = due ++ [rnS (OP (TH ps)) (staAt (TH ps) v)] ++ l.map fun v => rnS (OP (TH ps)) (staAt (TH ps) v) := by simp
    rw [List.map_cons, ee, ← ih]
    simp only [tE, List.map_append]
    rfl
theorem law_least_eq (k : POk ps) : m_law_least [ePa ps] = some (ePa (LP ps)) := by
  refine mkF_rt (x := row0) rfl ?_
  have h := TH_ok k
  have hn := k.n
  have hl := OP_len h
  have c1 : sSet 1 (xVal (fCall m_law_marks (aCons (fVar 0) aNil))) [.va (ePa ps), .no, .no, .no, .no, .no, .no, .no, .no] row0 = some (.nx [.va (ePa ps), .va (il (LM ps)), .no, .no, .no, .no, .no, .no, .no], row0) := sV (fK (aC1 (vV rfl)) (law_marks_eq k))
  have c2 : sSet 3 ((fun f => xVal (fOfX f)) (xLc (fSeq (fVar 0)) (gtName 8) tYesF (lnEl 8 2) [8])) [.va (ePa ps), .va (il (LM ps)), .no, .no, .no, .no, .no, .no, .no] row0 = some (.nx [.va (ePa ps), .va (il (LM ps)), .no, .va (.list ((TH ps).map eSta)), .no, .no, .no, .no, .no], row0) := by
    have l1 : fOfX (xLc (fSeq (fVar 0)) (gtName 8) tYesF (lnEl 8 2) [8]) [.va (ePa ps), .va (il (LM ps)), .no, .no, .no, .no, .no, .no, .no] row0 = some (.list ((TH ps).map eSta), row0) := by
      unfold TH
      rw [List.map_map]
      exact lc_eq (ds := ps.map eSta) (sqT (vV rfl)) (compL_map eSta _ ps fun s hs => ⟨_, rfl, rfl, ln_el (k.s s hs) (mk_len _) (by omega) (by omega) (by simp [wipeE]) rfl rfl row0⟩) (by rw [List.length_map]; exact nob_n (by omega))
    exact sV l1
  have g0 : gAt (il (LM ps)) (.int 0) = some (.int 0) := by
    have := vl_at (g := LM ps) (v := 0) (by omega) (by unfold LM; rw [mk_len]; omega)
    rw [LM_0 k] at this; exact this
  have c3 : sPars [4, 5] (xsCons (xVal (fLst (aCons (fBin gAt (fBor 1) (fC (.int 0))) aNil))) (xsCons (xVal (fC (.int 0))) xsNil)) [.va (ePa ps), .va (il (LM ps)), .no, .va (.list ((TH ps).map eSta)), .no, .no, .no, .no, .no] row0 = some (.nx (tE ps [0] 0 .no .no .no), row0) := by
    have l1 : fLst (aCons (fBin gAt (fBor 1) (fC (.int 0))) aNil) [.va (ePa ps), .va (il (LM ps)), .no, .va (.list ((TH ps).map eSta)), .no, .no, .no, .no, .no] row0 = some (il [0], row0) := fLst_ok (aC1 (fB (vB rfl) rfl g0)) one_ml
    have l2 : xsCons (xVal (fLst (aCons (fBin gAt (fBor 1) (fC (.int 0))) aNil))) (xsCons (xVal (fC (.int 0))) xsNil) [.va (ePa ps), .va (il (LM ps)), .no, .va (.list ((TH ps).map eSta)), .no, .no, .no, .no, .no] row0 = some ([.va (il [0]), .va (.int 0)], row0) := by
      simp only [xsCons, xVal, l1, fC, xsNil]
    simp only [sPars, l2, List.length_cons, List.length_nil, if_true]
    rfl
  obtain ⟨c, p, c4⟩ := t_order h (p0 := .no) (s6 := .no) (s7 := .no)
  have c5 : sSet 6 (xLst aNil) (tE ps (OP (TH ps)) c p .no .no) row0 = some (.nx (tE ps (OP (TH ps)) c p (.ow (.lst (([] : List StT).map eSta))) .no), row0) := by
    have : xLst aNil (tE ps (OP (TH ps)) c p .no .no) row0 = some (.ow (.lst []), row0) := xLst_ok rfl nil_ml
    simp only [sSet, this]; rfl
  obtain ⟨s7, c6⟩ := td_loop h (c := c) (p2 := p) row0 (OP (TH ps)) (fun v hv => hv) [] .no (by simp; omega)
  have c7 : sFor (fSeq (fVar 4)) (gtName 7) (sApp 6 tdEl) (tE ps (OP (TH ps)) c p (.ow (.lst (([] : List StT).map eSta))) .no) row0 = _ := for_eq (sqL (vV rfl)) c6
  rw [List.nil_append] at c7
  show b_law_least [.va (ePa ps), .no, .no, .no, .no, .no, .no, .no, .no] row0 = _
  unfold b_law_least
  rw [sSeq_nx c1, sSeq_nx c2, sSeq_nx c3, sSeq_nx c4, sSeq_nx c5, sSeq_nx c7]
  rw [← TH_trim k]
  exact sR (fK (aC1 (vO rfl)) rfl)
end Lw

namespace Lw
open PySem RT Wb
variable {ps qs : List StT}
theorem lev_ev (h : POk ps) : ∀ m, ∀ r ∈ lev (wP ps) m, ∀ t ∈ r.1, evOk t
  | 0, r, hr => by simp [lev] at hr; subst hr; intro m hm; simp at hm
  | m + 1, r, hr => by
    rw [lev] at hr
    obtain ⟨q, hq, hr⟩ := List.mem_flatMap.mp hr
    obtain ⟨p, hp, rfl⟩ := List.mem_map.mp hr
    intro t ht
    rcases List.mem_append.mp ht with ht | ht
    · exact lev_ev h m q hq t ht
    · rw [List.mem_singleton] at ht; subst ht
      unfold stp at hp
      cases e : (wP ps)[q.2.toNat]? with
      | none => rw [e] at hp; simp at hp
      | some s => rw [e] at hp; exact h.ev s (List.mem_of_getElem? e) p hp
theorem lev_leP (h : POk ps) {t : Nat} (ht : t ≤ 6) : (lev (wP ps) t).length ≤ 64 := by
  refine Nat.le_trans (lev_len h.web t) ?_
  have := Nat.pow_le_pow_right (n := 2) (by omega) ht
  simpa using this
/-! comprehensions that draw, item for item -/
theorem compL_rowZ {α β : Type} (e0 : β → D) (enc : α → D) {gt : FGt} {t : FT} {fe : FE} {env : FEn} (R : β → α → Prop) : ∀ (l : List β), (∀ b ∈ l, ∀ x : FRow, 0 ≤ x.a → ∃ e a x', gt (e0 b) env = some e ∧ t e x = some (true, x) ∧ fe e x = some (enc a, x') ∧ 0 ≤ x'.a ∧ R b a) → ∀ x : FRow, 0 ≤ x.a → ∃ (as : List α) (x' : FRow), compL gt t fe env (l.map e0) x = some (as.map enc, x') ∧ 0 ≤ x'.a ∧ Paired R l as
  | [], _, x, hx => ⟨[], x, rfl, hx, .nil⟩
  | b :: l, h, x, hx => by
    obtain ⟨e, a, x1, h1, h2, h3, h4, h5⟩ := h b (by simp) x hx
    obtain ⟨as, x2, g1, g2, g3⟩ := compL_rowZ e0 enc R l (fun c hc => h c (by simp [hc])) x1 h4
    exact ⟨a :: as, x2, by simp [compL, h1, h2, h3, g1], g2, .cons h5 g3⟩
theorem lc_row {f : FA} {gt : FGt} {t : FT} {fe : FE} {vs : List Nat} {env : FEn} {x x' : FRow} {ds rs : List D} (h1 : f env x = some (ds, x)) (h2 : compL gt t fe (wipeE env vs) ds x = some (rs, x')) (h3 : rs.length < maxLen) : fOfX (xLc f gt t fe vs) env x = some (.list rs, x') := by
  simp [fOfX, xLc, h1, h2, h3, OwD.d]
theorem paired_map {α β γ : Type} {R : α → β → Prop} {f : α → γ} {g : β → γ} (h : ∀ a b, R a b → g b = f a) : ∀ {l : List α} {m : List β}, Paired R l m → m.map g = l.map f
  | _, _, .nil => rfl
  | _, _, .cons r rs => by rw [List.map_cons, List.map_cons, h _ _ r, paired_map h rs]
theorem paired_mem {α β : Type} {R : α → β → Prop} : ∀ {l : List α} {m : List β}, Paired R l m → ∀ b ∈ m, ∃ a ∈ l, R a b
  | _, _, .nil, b, h => nomatch h
  | _, _, .cons r rs, b, h => by
    rcases List.mem_cons.mp h with rfl | h
    · exact ⟨_, List.mem_cons_self, r⟩
    · obtain ⟨a, ha, q⟩ := paired_mem rs b h
      exact ⟨a, List.mem_cons_of_mem _ ha, q⟩
/-- a state with other targets -/
structure Bent (n m : Nat) (s t : StT) : Prop where
  rr : t.1 = s.1
  mm : t.2.map (·.1) = s.2.map (·.1)
  tt : ∀ p ∈ t.2, 0 ≤ p.2 ∧ p.2 < (m : Int)
theorem Bent.ok {n m : Nat} {s t : StT} (so : StOk n s) (b : Bent n m s t) : StOk m t where
  l := by have := congrArg List.length b.mm; rw [List.length_map, List.length_map] at this; rw [this]; exact so.l
  e := fun p hp => by
    have : p.1 ∈ s.2.map (·.1) := by rw [← b.mm]; exact List.mem_map.mpr ⟨p, hp, rfl⟩
    obtain ⟨q, hq, e⟩ := List.mem_map.mp this
    rw [← e]; exact so.e q hq
  t := b.tt
  a := by
    have := so.a
    rw [← List.pairwise_map (f := fun p : Mk × Int => p.1) (R := fun a b => mlt a b)] at this ⊢
    rw [b.mm]; exact this
abbrev twLc : FE := fOfX (xLc (fSeq (fBin gAt (fBor 10) (fC (.int 1)))) (gtName 11) tYesF (fBin gAdd (fSl (fBor 11) oNone (oSome (fC (.int 3)))) (fTup (aCons (fBin gAdd (fBin gAt (fBor 11) (fC (.int 3))) (fBin gMul (fBor 4) (fCallR 1 m_law_taken (aCons (fC (.int 2)) aNil)))) aNil))) [11])
abbrev twEl : FE := fTup (aCons (fBin gAt (fBor 10) (fC (.int 0))) (aCons (fCall gTupOf (aCons twLc aNil)) aNil))
theorem tupOf_row {F : FE} {env : FEn} {x x1 : FRow} {ds : List D} (h : F env x = some (.list ds, x1)) : fCall gTupOf (aCons F aNil) env x = some (.tuple ds, x1) := tupOf_ok h
theorem add_ii (a b : Int) : gAdd (.int a) (.int b) = some (.int (a + b)) := rfl
theorem mul_ii (a b : Int) (h : 0 ≤ a ∧ a ≤ 100) : gMul (.int a) (.int b) = some (.int (a * b)) := by
  have c : (-18446744073709551616 < a ∧ a < 18446744073709551616) ∨ (-18446744073709551616 < b ∧ b < 18446744073709551616) := .inl ⟨by omega, by omega⟩
  simp [gMul, gOr, gMulI, gI, pMul, c]
theorem tw_el {n : Nat} (hn : n ≤ 8) {E : FEn} {s : StT} (so : StOk n s) (h12 : E.length = 12) (hr : E[1]? = some .rw) (hb : E[4]? = some (.va (.int (n : Int)))) (hs : E[10]? = some (.va (eSta s))) {x : FRow} (hx : 0 ≤ x.a) :
    ∃ t x', twEl E x = some (eSta t, x') ∧ 0 ≤ x'.a ∧ Bent n (2 * n) s t := by
  obtain ⟨as, x1, g1, g2, g3⟩ := compL_rowZ eSt eSt (gt := gtName 11) (t := tYesF) (fe := fBin gAdd (fSl (fBor 11) oNone (oSome (fC (.int 3)))) (fTup (aCons (fBin gAdd (fBin gAt (fBor 11) (fC (.int 3))) (fBin gMul (fBor 4) (fCallR 1 m_law_taken (aCons (fC (.int 2)) aNil)))) aNil))) (env := wipeE E [11]) (fun p q => q.1 = p.1 ∧ 0 ≤ q.2 ∧ q.2 < ((2 * n : Nat) : Int)) s.2 (by
    intro p hp x hx
    have hp' := so.e p hp
    have ht := so.t p hp
    generalize hE : (wipeE E [11]).set 11 (.va (eSt p)) = F
    have f1 : F[1]? = some .rw := by rw [← hE]; simp [wipeE, hr]
    have b11 : ∀ x, fBor 11 F x = some (eSt p, x) := fun x => vB (by rw [← hE]; simp [wipeE, h12])
    have b4 : ∀ x, fBor 4 F x = some (.int (n : Int), x) := fun x => vB (by rw [← hE]; simp [wipeE, hb])
    obtain ⟨r, x', e, ⟨r0, r1⟩, hx'⟩ := takE (env := F) (i := 1) f1 hx (f := fC (.int 2)) (many := 2) rfl (by omega) (by omega)
    have q1 : fBin gMul (fBor 4) (fCallR 1 m_law_taken (aCons (fC (.int 2)) aNil)) F x = some (.int ((n : Int) * r), x') := fBin_eq (b4 x) e (mul_ii _ _ ⟨by omega, by omega⟩)
    have q2 : fBin gAdd (fBin gAt (fBor 11) (fC (.int 3))) (fBin gMul (fBor 4) (fCallR 1 m_law_taken (aCons (fC (.int 2)) aNil))) F x = some (.int (p.2 + (n : Int) * r), x') := fBin_eq (fB (b11 x) rfl (eSt_3 hp')) q1 (add_ii _ _)
    have q3 := fBin_eq (gd := gAdd) (sl3 hp' (b11 x)) (fTup_ok (aCons1 q2) one_ml) (eSt_cat (p := (p.1, p.2 + (n : Int) * r)) hp')
    refine ⟨F, (p.1, p.2 + (n : Int) * r), x', by rw [← hE]; rfl, rfl, q3, hx', rfl, ?_⟩
    have : r = 0 ∨ r = 1 := by omega
    rcases this with rfl | rfl
    · constructor <;> simp <;> omega
    · constructor <;> simp <;> omega) x hx
  have l1 : twLc E x = some (.list (as.map eSt), x1) := lc_row (ds := s.2.map eSt) (sqT (fB (vB hs) rfl (eSta_1 s))) g1 (by
    have := Paired.length g3
    rw [List.length_map]; exact nob_n (by have := so.l; omega))
  refine ⟨(s.1, as), x1, ?_, g2, ⟨rfl, paired_map (fun a b r => r.1) g3, fun p hp => ?_⟩⟩
  · exact fTup_ok (aCons_eq (f := fBin gAt (fBor 10) (fC (.int 0))) (fB (vB hs) rfl (eSta_0 s)) (aCons1 (tupOf_row l1))) two_ml
  · obtain ⟨a, _, h⟩ := paired_mem g3 p hp
    exact h.2
abbrev shLc : FE := fOfX (xLc (fSeq (fBin gAt (fBor 10) (fC (.int 1)))) (gtName 11) tYesF (fBin gAdd (fSl (fBor 11) oNone (oSome (fC (.int 3)))) (fTup (aCons (fBin gAdd (fBin gAt (fBor 11) (fC (.int 3))) (fBor 4)) aNil))) [11])
abbrev shEl : FE := fTup (aCons (fBin gAt (fBor 10) (fC (.int 0))) (aCons (fCall gTupOf (aCons shLc aNil)) aNil))
theorem sh_el {n : Nat} {E : FEn} {s : StT} (so : StOk n s) (h12 : E.length = 12) (hb : E[4]? = some (.va (.int (n : Int)))) (hs : E[10]? = some (.va (eSta s))) (x : FRow) : shEl E x = some (eSta (lineOf (· + (n : Int)) s), x) := by
  have l1 : shLc E x = some (.list ((lineOf (· + (n : Int)) s).2.map eSt), x) := by
    rw [lineOf, List.map_map]
    refine lc_eq (ds := s.2.map eSt) (sqT (fB (vB hs) rfl (eSta_1 s))) (compL_map eSt _ _ fun p hp => ⟨_, rfl, rfl, ?_⟩) (by rw [List.length_map]; exact nob_n (by have := so.l; omega))
    generalize hE : (wipeE E [11]).set 11 (.va (eSt p)) = F
    have b11 : fBor 11 F x = some (eSt p, x) := vB (by rw [← hE]; simp [wipeE, h12])
    have b4 : fBor 4 F x = some (.int (n : Int), x) := vB (by rw [← hE]; simp [wipeE, hb])
    have hp' := so.e p hp
    exact fB (sl3 hp' b11) (fTup_ok (aC1 (fB (fB b11 rfl (eSt_3 hp')) b4 (add_ii _ _))) one_ml) (eSt_cat (p := (p.1, p.2 + (n : Int))) hp')
  exact fTup_ok (aC2 (fB (vB hs) rfl (eSta_0 s)) (tupOf_ok l1)) two_ml
end Lw

namespace Lw
open PySem RT Wb
variable {ps qs : List StT}
theorem cat_T {xs ys : List D} (h : xs.length + ys.length ≤ maxLen) : gAdd (.tuple xs) (.tuple ys) = some (.tuple (xs ++ ys)) := by
  simp only [gAdd, gOr, gI, gCatT, if_pos h]
theorem pa_cat {as bs : List StT} (h : as.length + bs.length ≤ 1000) : gAdd (ePa as) (ePa bs) = some (ePa (as ++ bs)) := by
  unfold ePa
  rw [List.map_append]
  exact cat_T (by rw [List.length_map, List.length_map]; exact ml _ (by omega))
def wE (X Y : D) (s4 s5 s6 s7 s8 s9 : FSl) : FEn := [.no, .rw, .va X, .va Y, s4, s5, s6, s7, s8, s9, .no, .no]
theorem if_t {t : FT} {f g : FS} {env : FEn} {x x1 : FRow} (h : t env x = some (true, x1)) : sIf t f g env x = f env x1 := by simp only [sIf, h]
theorem if_f {t : FT} {f g : FS} {env : FEn} {x x1 : FRow} (h : t env x = some (false, x1)) : sIf t f g env x = g env x1 := by simp only [sIf, h]
abbrev likeS : FS := sSeq (sSet 4 (xVal (fCall gLen (aCons (fBor 2) aNil))))
    (sSeq (sSet 5 (xVal (fCall gTupOf (aCons (fOfX (xLc (fSeq (fVar 2)) (gtName 10) tYesF twEl [10])) aNil))))
    (sSet 3 (xVal (fBin gAdd (fBor 5) (fCall gTupOf (aCons (fOfX (xLc (fSeq (fVar 2)) (gtName 10) tYesF shEl [10])) aNil))))))
theorem like_ok (h : POk ps) (h4 : ps.length ≤ 4) {Y : D} {x : FRow} (hx : 0 ≤ x.a) : ∃ qs s4 s5 x', POk qs ∧ likeS (wE (ePa ps) Y .no .no .no .no .no .no) x = some (.nx (wE (ePa ps) (ePa qs) s4 s5 .no .no .no .no), x') := by
  have hn := h.n
  have c1 : sSet 4 (xVal (fCall gLen (aCons (fBor 2) aNil))) (wE (ePa ps) Y .no .no .no .no .no .no) x = some (.nx (wE (ePa ps) Y (.va (.int (ps.length : Nat))) .no .no .no .no .no), x) := sV (fK (aC1 (vB rfl)) (len_pa ps))
  obtain ⟨ts, x1, g1, g2, g3⟩ := compL_rowZ eSta eSta (gt := gtName 10) (t := tYesF) (fe := twEl) (env := wipeE (wE (ePa ps) Y (.va (.int (ps.length : Nat))) .no .no .no .no .no) [10]) (Bent ps.length (2 * ps.length)) ps (by
    intro s hs x hx
    obtain ⟨t, x', e, hx', b⟩ := tw_el (n := ps.length) (by omega) (E := (wipeE (wE (ePa ps) Y (.va (.int (ps.length : Nat))) .no .no .no .no .no) [10]).set 10 (.va (eSta s))) (h.s s hs) rfl rfl rfl rfl hx
    exact ⟨_, t, x', rfl, rfl, e, hx', b⟩) x hx
  have tl : ts.length = ps.length := (Paired.length g3).symm
  have c2 : sSet 5 (xVal (fCall gTupOf (aCons (fOfX (xLc (fSeq (fVar 2)) (gtName 10) tYesF twEl [10])) aNil))) (wE (ePa ps) Y (.va (.int (ps.length : Nat))) .no .no .no .no .no) x = some (.nx (wE (ePa ps) Y (.va (.int (ps.length : Nat))) (.va (ePa ts)) .no .no .no .no), x1) :=
    sSet_va (tupOf_row (lc_row (ds := ps.map eSta) (sqT (vV rfl)) g1 (by rw [List.length_map]; exact nob_n (by omega))))
  have l3 : fOfX (xLc (fSeq (fVar 2)) (gtName 10) tYesF shEl [10]) (wE (ePa ps) Y (.va (.int (ps.length : Nat))) (.va (ePa ts)) .no .no .no .no) x1 = some (.list ((ps.map (lineOf (· + ((ps.length : Nat) : Int)))).map eSta), x1) := by
    rw [List.map_map]
    exact lc_eq (ds := ps.map eSta) (sqT (vV rfl)) (compL_map eSta _ ps fun s hs => ⟨_, rfl, rfl, sh_el (h.s s hs) rfl rfl rfl x1⟩) (by rw [List.length_map]; exact nob_n (by omega))
  have c3 : sSet 3 (xVal (fBin gAdd (fBor 5) (fCall gTupOf (aCons (fOfX (xLc (fSeq (fVar 2)) (gtName 10) tYesF shEl [10])) aNil)))) (wE (ePa ps) Y (.va (.int (ps.length : Nat))) (.va (ePa ts)) .no .no .no .no) x1 = some (.nx (wE (ePa ps) (ePa (ts ++ ps.map (lineOf (· + ((ps.length : Nat) : Int))))) (.va (.int (ps.length : Nat))) (.va (ePa ts)) .no .no .no .no), x1) :=
    sV (fB (vB rfl) (tupOf_ok l3) (pa_cat (by rw [List.length_map]; omega)))
  refine ⟨ts ++ ps.map (lineOf (· + ((ps.length : Nat) : Int))), .va (.int (ps.length : Nat)), .va (ePa ts), x1, ⟨by rw [List.length_append, List.length_map]; omega, fun s hs => ?_⟩, ?_⟩
  · have e : (ts ++ ps.map (lineOf (· + ((ps.length : Nat) : Int)))).length = 2 * ps.length := by rw [List.length_append, List.length_map]; omega
    rw [e]
    rcases List.mem_append.mp hs with hs | hs
    · obtain ⟨a, ha, b⟩ := paired_mem g3 s hs
      exact b.ok (h.s a ha)
    · obtain ⟨a, ha, rfl⟩ := List.mem_map.mp hs
      have so := h.s a ha
      exact line_ok so fun p hp => by
        have := so.t p hp
        show 0 ≤ p.2 + ((ps.length : Nat) : Int) ∧ p.2 + ((ps.length : Nat) : Int) < ((2 * ps.length : Nat) : Int)
        omega
  · unfold likeS
    rw [sSeq_nx c1, sSeq_nx c2]
    exact c3
/-! the rows -/
def rowsD (ps : List StT) (m : Nat) : D := .list ((lev (wP ps) m).map fun r => rowD r.1)
def restD (ps : List StT) (m : Nat) : D := .list (((lev (wP ps) m).filter fun r => rests ps r.2).map fun r => rowD r.1)
theorem lev_lenr : ∀ (m : Nat) (r : List Mk × Int), r ∈ lev (wP ps) m → r.1.length = m := by
  intro m
  induction m with
  | zero => intro r hr; simp [lev] at hr; subst hr; rfl
  | succ m ih =>
    intro r hr
    rw [lev] at hr
    obtain ⟨q, hq, hr⟩ := List.mem_flatMap.mp hr
    obtain ⟨p, hp, rfl⟩ := List.mem_map.mp hr
    have := ih q hq
    simp [this]
theorem rows_pt (h : POk ps) {m : Nat} (hm : m ≤ 6) : Pt 5 (rowsD ps m) ∧ Pt 5 (restD ps m) := by
  have hl := lev_leP h hm
  have key : ∀ l : List (List Mk × Int), (∀ r ∈ l, r ∈ lev (wP ps) m) → l.length ≤ 64 → Pt 5 (.list (l.map fun r => rowD r.1)) := fun l hs hl => by
    refine Pt.le (k := 3) (pt_list (by rw [List.length_map]; omega) fun d hd => ?_) (by omega)
    obtain ⟨r, hr, rfl⟩ := List.mem_map.mp hd
    have h3 := lev_lenr m r (hs r hr)
    exact pt_row (S := S4) (by simp) (by omega) (lev_shp (S := S4) h.shp m r (hs r hr))
  exact ⟨key _ (fun r hr => hr) hl, key _ (fun r hr => (List.mem_filter.mp hr).1) (Nat.le_trans (List.length_filter_le _ _) hl)⟩
theorem rows_eq' (h : POk ps) (k : POk qs) (s : Same ps 0 qs 0) (m : Nat) : rowsD ps m = rowsD qs m ∧ restD ps m = restD qs m := by
  have := rows_same h k s m
  unfold rowsD restD
  exact ⟨by rw [this.1], by rw [this.2]⟩
theorem runs_D (h : POk ps) {m : Nat} (hm : m ≤ 12) : m_runs [ePa ps, .int m] = some (rowsD ps m) := runs_eq h hm
theorem rest_D (h : POk ps) {m : Nat} (hm : m ≤ 12) : m_resting_runs [ePa ps, .int m] = some (restD ps m) := resting_eq h hm
end Lw

namespace Lw
open PySem RT Wb
variable {ps qs : List StT}
theorem not_t {f : FE} {env : FEn} {x : FRow} {b : Bool} (h : f env x = some (.bool b, x)) : tNotF (fTru f) env x = some (!b, x) := by
  simp only [tNotF, fTru, h, truD]
theorem tst_b {f : FE} {env : FEn} {x x1 : FRow} {b : Bool} (h : f env x = some (.bool b, x1)) : fTst f env x = some (b, x1) := by
  simp only [fTst, h]
theorem tru_b {f : FE} {env : FEn} {x : FRow} {b : Bool} (h : f env x = some (.bool b, x)) : fTru f env x = some (b, x) := by
  simp only [fTru, h, truD]
theorem ne_same {fa fb : FE} {env : FEn} {x : FRow} {d : D} (h : fa env x = some (d, x)) (h' : fb env x = some (d, x)) (hp : Pt 5 d) : fTst (fBin gNe fa fb) env x = some (false, x) := tst_b (fB h h' (Pt.nrf hp (by omega)))
theorem dec_sym (a b : List StT) : decide (a = b) = decide (b = a) := decide_eq_decide.mpr ⟨Eq.symm, Eq.symm⟩
abbrev sameE (i j : Nat) : FE := fCall m_same_parts (aCons (fVar i) (aCons (fVar j) aNil))
theorem law_run {x0 : FRow} (h0 : 0 ≤ x0.a) : ∃ x', b_law (.no :: .rw :: List.replicate 10 .no) x0 = some (.rt (.bool true), x') := by
  obtain ⟨ps, x1, p1, hx1, h, h4, _⟩ := part_ok (most := 4) (by omega) (pl := true) h0
  obtain ⟨q0, x2, p2, hx2, k0, _, _⟩ := part_ok (most := 4) (by omega) (pl := true) hx1
  have c1 : sPars [2, 3] (xsCons (xVal (fCallR 1 m_law_part (aCons (fC (.int 4)) (aCons (fC (.bool true)) aNil)))) (xsCons (xVal (fCallR 1 m_law_part (aCons (fC (.int 4)) (aCons (fC (.bool true)) aNil)))) xsNil)) (.no :: .rw :: List.replicate 10 .no) x0
      = some (.nx (wE (ePa ps) (ePa q0) .no .no .no .no .no .no), x2) := by
    have q1 := fCallR_eq (i := 1) (env := .no :: .rw :: List.replicate 10 .no) (x := x0) rfl (aCons_eq (f := fC (.int 4)) rfl (aCons1 (fa := fC (.bool true)) rfl)) p1
    have q2 := fCallR_eq (i := 1) (env := .no :: .rw :: List.replicate 10 .no) (x := x1) rfl (aCons_eq (f := fC (.int 4)) rfl (aCons1 (fa := fC (.bool true)) rfl)) p2
    have q3 : xsCons (xVal (fCallR 1 m_law_part (aCons (fC (.int 4)) (aCons (fC (.bool true)) aNil)))) (xsCons (xVal (fCallR 1 m_law_part (aCons (fC (.int 4)) (aCons (fC (.bool true)) aNil)))) xsNil) (.no :: .rw :: List.replicate 10 .no) x0 = some ([.va (ePa ps), .va (ePa q0)], x2) := by
      simp only [xsCons, xVal, q1, q2, xsNil]
    simp only [sPars, q3, List.length_cons, List.length_nil, if_true]
    rfl
  obtain ⟨r, x3, u1, _, hx3⟩ := takE (env := wE (ePa ps) (ePa q0) .no .no .no .no .no .no) (i := 1) rfl hx2 (f := fC (.int 2)) (many := 2) rfl (by omega) (by omega)
  have t2 : fTst (fBin gEq (fCallR 1 m_law_taken (aCons (fC (.int 2)) aNil)) (fC (.int 0))) (wE (ePa ps) (ePa q0) .no .no .no .no .no .no) x2 = some (decide (r = 0), x3) := tst_b (fBin_eq u1 rfl (eq_int r 0))
  have hb : ∃ qs s4 s5 x, POk qs ∧ sIf (fTst (fBin gEq (fCallR 1 m_law_taken (aCons (fC (.int 2)) aNil)) (fC (.int 0)))) likeS sNil (wE (ePa ps) (ePa q0) .no .no .no .no .no .no) x2 = some (.nx (wE (ePa ps) (ePa qs) s4 s5 .no .no .no .no), x) := by
    cases hr : decide (r = 0) with
    | true =>
      rw [hr] at t2
      obtain ⟨qs, s4, s5, x', k, e⟩ := like_ok h (by omega) (Y := ePa q0) hx3
      exact ⟨qs, s4, s5, x', k, by rw [if_t t2]; exact e⟩
    | false =>
      rw [hr] at t2
      exact ⟨q0, .no, .no, x3, k0, by rw [if_f t2]; rfl⟩
  obtain ⟨qs, s4, s5, x, k, c2⟩ := hb
  have hL := lp_ok h
  have kL := lp_ok k
  have c3 : sSet 6 (xVal (fCall m_law_least (aCons (fVar 2) aNil))) (wE (ePa ps) (ePa qs) s4 s5 .no .no .no .no) x = some (.nx (wE (ePa ps) (ePa qs) s4 s5 (.va (ePa (LP ps))) .no .no .no), x) := sV (fK (aC1 (vV rfl)) (law_least_eq h))
  generalize hE : wE (ePa ps) (ePa qs) s4 s5 (.va (ePa (LP ps))) .no .no .no = E at c3
  have e2 : E[2]? = some (.va (ePa ps)) := by rw [← hE]; rfl
  have e3 : E[3]? = some (.va (ePa qs)) := by rw [← hE]; rfl
  have e6 : E[6]? = some (.va (ePa (LP ps))) := by rw [← hE]; rfl
  have l2 : fCall m_least_part (aCons (fVar 2) aNil) E x = some (ePa (LP ps), x) := fK (aC1 (vV e2)) (least_part_eq h)
  have c4 : sIf (tOrF (tNotF (fTru (fCall (m_law_alike 9) (aCons (fCall m_least_part (aCons (fVar 2) aNil)) (aCons (fVar 6) aNil))))) (tNotF (fTru (fCall (m_law_alike 9) (aCons (fCall m_count_states (aCons (fVar 2) aNil)) (aCons (fCall gLen (aCons (fBor 6) aNil)) aNil)))))) (sRet (fC (.bool false))) sNil E x = some (.nx E, x) :=
    if_no (or_no (alike_t l2 (vV e6) (pt_pa hL)) (alike_t (fK (aC1 (vV e2)) (count_states_eq h)) (fK (aC1 (vB e6)) (len_pa _)) (pt_int _)))
  have c5 : sIf (fTst (fBin gNe (fCall m_least_part (aCons (fVar 6) aNil)) (fBor 6))) (sRet (fC (.bool false))) sNil E x = some (.nx E, x) :=
    if_no (ne_same (fK (aC1 (vV e6)) (by rw [least_part_eq hL, lp_twice h])) (vB e6) (pt_pa hL))
  have sE : ∀ {i j : Nat} {as bs : List StT} {F : FEn}, POk as → POk bs → F[i]? = some (.va (ePa as)) → F[j]? = some (.va (ePa bs)) → sameE i j F x = some (.bool (decide (LP as = LP bs)), x) := fun ha hb ea eb => fK (aC2 (vV ea) (vV eb)) (same_parts_eq ha hb)
  have c6 : sIf (tNotF (fTru (fCall (m_law_alike 9) (aCons (sameE 2 3) (aCons (fBin gEq (fCall m_law_least (aCons (fVar 3) aNil)) (fBor 6)) aNil))))) (sRet (fC (.bool false))) sNil E x = some (.nx E, x) :=
    if_no (alike_t (sE h k e2 e3) (fB (fK (aC1 (vV e3)) (law_least_eq k)) (vB e6) (by rw [eq_pa kL hL, dec_sym])) (pt_b _))
  have c7 : sIf (tNotF (fTru (fCall m_same_parts (aCons (fVar 2) (aCons (fCall m_trimmed_part (aCons (fVar 2) aNil)) aNil))))) (sRet (fC (.bool false))) sNil E x = some (.nx E, x) := by
    have := not_t (fK (m := m_same_parts) (aC2 (vV (x := x) e2) (fK (aC1 (vV e2)) (trimmed_eq h))) (same_parts_eq h (trP_ok h)))
    rw [decide_eq_true (lp_trim h).symm] at this
    exact if_no this
  have c8 : sIf (tNotF (fTru (sameE 2 6))) (sRet (fC (.bool false))) sNil E x = some (.nx E, x) := by
    have := not_t (sE h hL e2 e6)
    rw [decide_eq_true (lp_twice h).symm] at this
    exact if_no this
  obtain ⟨E', c9, g9⟩ := forL_rg (gt := gtName 7) (x := x) 5 (fun j env => ∃ s7 s8 s9, env = wE (ePa ps) (ePa qs) s4 s5 (.va (ePa (LP ps))) s7 s8 s9) E ⟨.no, .no, .no, hE.symm⟩ (b := sSeq (sPars [8, 9] (xsCons (xVal (fCall m_runs (aCons (fVar 2) (aCons (fVar 7) aNil)))) (xsCons (xVal (fCall m_runs (aCons (fVar 3) (aCons (fVar 7) aNil)))) xsNil)))
    (sSeq (sIf (tAndF (fTru (sameE 2 3)) (tOrF (fTst (fBin gNe (fBor 8) (fBor 9))) (fTst (fBin gNe (fCall m_resting_runs (aCons (fVar 2) (aCons (fVar 7) aNil))) (fCall m_resting_runs (aCons (fVar 3) (aCons (fVar 7) aNil))))))) (sRet (fC (.bool false))) sNil)
    (sIf (tOrF (fTst (fBin gNe (fCall m_runs (aCons (fVar 6) (aCons (fVar 7) aNil))) (fBor 8))) (fTst (fBin gNe (fCall m_resting_runs (aCons (fVar 6) (aCons (fVar 7) aNil))) (fCall m_resting_runs (aCons (fVar 2) (aCons (fVar 7) aNil)))))) (sRet (fC (.bool false))) sNil))) (by
      rintro m hm _ ⟨s7, s8, s9, rfl⟩
      refine ⟨wE (ePa ps) (ePa qs) s4 s5 (.va (ePa (LP ps))) (.va (.int (m : Nat))) s8 s9, wE (ePa ps) (ePa qs) s4 s5 (.va (ePa (LP ps))) (.va (.int (m : Nat))) (.va (rowsD ps m)) (.va (rowsD qs m)), rfl, ?_, ⟨_, _, _, rfl⟩⟩
      have d1 : sPars [8, 9] (xsCons (xVal (fCall m_runs (aCons (fVar 2) (aCons (fVar 7) aNil)))) (xsCons (xVal (fCall m_runs (aCons (fVar 3) (aCons (fVar 7) aNil)))) xsNil)) (wE (ePa ps) (ePa qs) s4 s5 (.va (ePa (LP ps))) (.va (.int (m : Nat))) s8 s9) x = some (.nx (wE (ePa ps) (ePa qs) s4 s5 (.va (ePa (LP ps))) (.va (.int (m : Nat))) (.va (rowsD ps m)) (.va (rowsD qs m))), x) := by
        have q1 : fCall m_runs (aCons (fVar 2) (aCons (fVar 7) aNil)) (wE (ePa ps) (ePa qs) s4 s5 (.va (ePa (LP ps))) (.va (.int (m : Nat))) s8 s9) x = some (rowsD ps m, x) := fK (aC2 (vV rfl) (vV rfl)) (runs_D h (by omega))
        have q2 : fCall m_runs (aCons (fVar 3) (aCons (fVar 7) aNil)) (wE (ePa ps) (ePa qs) s4 s5 (.va (ePa (LP ps))) (.va (.int (m : Nat))) s8 s9) x = some (rowsD qs m, x) := fK (aC2 (vV rfl) (vV rfl)) (runs_D k (by omega))
        simp only [sPars, xsCons, xVal, q1, q2, xsNil, List.length_cons, List.length_nil, if_true]
        rfl
      rw [sSeq_nx d1]
      generalize hF : wE (ePa ps) (ePa qs) s4 s5 (.va (ePa (LP ps))) (.va (.int (m : Nat))) (.va (rowsD ps m)) (.va (rowsD qs m)) = F
      have f2 : F[2]? = some (.va (ePa ps)) := by rw [← hF]; rfl
      have f3 : F[3]? = some (.va (ePa qs)) := by rw [← hF]; rfl
      have f6 : F[6]? = some (.va (ePa (LP ps))) := by rw [← hF]; rfl
      have f7 : F[7]? = some (.va (.int (m : Nat))) := by rw [← hF]; rfl
      have f8 : F[8]? = some (.va (rowsD ps m)) := by rw [← hF]; rfl
      have f9 : F[9]? = some (.va (rowsD qs m)) := by rw [← hF]; rfl
      have pp := rows_pt h (m := m) (by omega)
      have r2 : fCall m_resting_runs (aCons (fVar 2) (aCons (fVar 7) aNil)) F x = some (restD ps m, x) := fK (aC2 (vV f2) (vV f7)) (rest_D h (by omega))
      have r3 : fCall m_resting_runs (aCons (fVar 3) (aCons (fVar 7) aNil)) F x = some (restD qs m, x) := fK (aC2 (vV f3) (vV f7)) (rest_D k (by omega))
      have r6 : fCall m_resting_runs (aCons (fVar 6) (aCons (fVar 7) aNil)) F x = some (restD ps m, x) := by
        have := fK (m := m_resting_runs) (aC2 (vV (x := x) f6) (vV f7)) (rest_D hL (m := m) (by omega))
        rw [← (rows_eq' h hL (lp_same h) m).2] at this
        exact this
      have u6 : fCall m_runs (aCons (fVar 6) (aCons (fVar 7) aNil)) F x = some (rowsD ps m, x) := by
        have := fK (m := m_runs) (aC2 (vV (x := x) f6) (vV f7)) (runs_D hL (m := m) (by omega))
        rw [← (rows_eq' h hL (lp_same h) m).1] at this
        exact this
      have d2 : tAndF (fTru (sameE 2 3)) (tOrF (fTst (fBin gNe (fBor 8) (fBor 9))) (fTst (fBin gNe (fCall m_resting_runs (aCons (fVar 2) (aCons (fVar 7) aNil))) (fCall m_resting_runs (aCons (fVar 3) (aCons (fVar 7) aNil)))))) F x = some (false, x) := by
        have s := tru_b (sE h k f2 f3)
        by_cases c : LP ps = LP qs
        · rw [decide_eq_true c] at s
          have sm := rows_eq' h k ((lp_iff h k).mp c) m
          rw [← sm.1] at f9
          rw [← sm.2] at r3
          have := or_no (ne_same (vB (x := x) f8) (vB f9) pp.1) (ne_same r2 r3 pp.2)
          unfold tAndF
          rw [s]
          exact this
        · rw [decide_eq_false c] at s
          unfold tAndF
          rw [s]
      rw [sSeq_nx (if_no d2)]
      exact if_no (or_no (ne_same u6 (vB f8) pp.1) (ne_same r6 r2 pp.2)))
  obtain ⟨s7, s8, s9, rfl⟩ := g9
  have c9' := for_eq (f := fRg1 (fC (.int 5))) (env := E) (x := x) (x1 := x) (ds := rgD 0 5) (rg1 (n := 5) rfl (by omega)) c9
  generalize hG : wE (ePa ps) (ePa qs) s4 s5 (.va (ePa (LP ps))) s7 s8 s9 = F at c9'
  have f2 : F[2]? = some (.va (ePa ps)) := by rw [← hG]; rfl
  have f3 : F[3]? = some (.va (ePa qs)) := by rw [← hG]; rfl
  have c10 : sIf (fTst (fBin gNe (sameE 2 3) (sameE 3 2))) (sRet (fC (.bool false))) sNil F x = some (.nx F, x) := by
    have a := sE h k f2 f3
    have b := sE k h f3 f2
    rw [dec_sym] at b
    exact if_no (ne_same a b (pt_b _))
  have c11 : sIf (fTst (fBin gNe (sameE 2 3) (fBin gEq (fCall m_least_part (aCons (fVar 3) aNil)) (fCall m_least_part (aCons (fVar 2) aNil))))) (sRet (fC (.bool false))) sNil F x = some (.nx F, x) := by
    have a := sE h k f2 f3
    have b : fBin gEq (fCall m_least_part (aCons (fVar 3) aNil)) (fCall m_least_part (aCons (fVar 2) aNil)) F x = some (.bool (decide (LP ps = LP qs)), x) := fB (fK (aC1 (vV f3)) (least_part_eq k)) (fK (aC1 (vV f2)) (least_part_eq h)) (by rw [eq_pa kL hL, dec_sym])
    exact if_no (ne_same a b (pt_b _))
  have n1 := lp_le h
  have n2 := trP_le h
  have c12 : fChain (gI yes2 fun i j => .bool (decide (i ≤ j))) (gI yes2 fun i j => .bool (decide (i ≤ j))) (fCall m_count_states (aCons (fVar 2) aNil)) (fCall gLen (aCons (fCall m_trimmed_part (aCons (fVar 2) aNil)) aNil)) (fCall gLen (aCons (fBor 2) aNil)) F x = some (.bool true, x) := by
    have a : fCall m_count_states (aCons (fVar 2) aNil) F x = some (.int ((LP ps).length : Nat), x) := fK (aC1 (vV f2)) (count_states_eq h)
    have b : fCall gLen (aCons (fCall m_trimmed_part (aCons (fVar 2) aNil)) aNil) F x = some (.int ((trP ps).length : Nat), x) := fK (aC1 (fK (aC1 (vV f2)) (trimmed_eq h))) (len_pa _)
    have c : fCall gLen (aCons (fBor 2) aNil) F x = some (.int (ps.length : Nat), x) := fK (aC1 (vB f2)) (len_pa _)
    have d1 : decide ((((LP ps).length : Nat) : Int) ≤ (((trP ps).length : Nat) : Int)) = true := decide_eq_true (by omega)
    have d2 : decide ((((trP ps).length : Nat) : Int) ≤ ((ps.length : Nat) : Int)) = true := decide_eq_true (by omega)
    simp only [fChain, a, b, c, gI, yes2, if_true, d1, d2]
  refine ⟨x, ?_⟩
  unfold b_law
  rw [sSeq_nx c1, sSeq_nx c2, sSeq_nx c3, sSeq_nx c4, sSeq_nx c5, sSeq_nx c6, sSeq_nx c7, sSeq_nx c8, sSeq_nx c9', sSeq_nx c10, sSeq_nx c11]
  exact sR c12
theorem main (ns : List Int) (h : ns.length ≤ 63) : ∃ x', b_law (.no :: .rw :: List.replicate 10 .no) ⟨ns, 0, 10104, 0⟩ = some (.rt (.bool true), x') :=
  law_run (by simp)
end Lw

namespace Lw
open PySem PySem.Spec PyProof.Rows L2 RT
section
theorem all_mk {l : PySem.W.OpenLaw} {w : World} {K : PySem.W.Frag} {h : Heap} {mg : Str → Option Value} {fa : Addr} (X : K.In h) (G : h.Ns mainGlobals mg) (hfa : mg "law" = some (.ref fa))
    {od_law_marks an_law_marks : Option Addr} {sl_law_marks : Array (Option Value)} {oc_law_marks kV_law_marks dc_law_marks pm_law_marks cd_law_marks ct_law_marks : Value} {f_law_marks : Addr}
    (a_law_marks : PySem.W.nsIn K mainGlobals "_law_marks" = some (some (.ref f_law_marks))) (l_law_marks : K.lookup f_law_marks = some ⟨oc_law_marks, od_law_marks, .func (PySem.W.fnOf "_law_marks" "_law_marks" (defArgs s_law_marks) (defBody s_law_marks) (defScope s_law_marks) .none kV_law_marks dc_law_marks pm_law_marks an_law_marks cd_law_marks ct_law_marks), sl_law_marks⟩) (c_law_marks : PySem.W.codeIn K cd_law_marks "_law_marks" = true) (k_law_marks : PySem.W.keepIn K (.ref f_law_marks) = true)
    {od_law_least an_law_least : Option Addr} {sl_law_least : Array (Option Value)} {oc_law_least kV_law_least dc_law_least pm_law_least cd_law_least ct_law_least : Value} {f_law_least : Addr}
    (a_law_least : PySem.W.nsIn K mainGlobals "_law_least" = some (some (.ref f_law_least))) (l_law_least : K.lookup f_law_least = some ⟨oc_law_least, od_law_least, .func (PySem.W.fnOf "_law_least" "_law_least" (defArgs s_law_least) (defBody s_law_least) (defScope s_law_least) .none kV_law_least dc_law_least pm_law_least an_law_least cd_law_least ct_law_least), sl_law_least⟩) (c_law_least : PySem.W.codeIn K cd_law_least "_law_least" = true) (k_law_least : PySem.W.keepIn K (.ref f_law_least) = true)
    {od_law_taken an_law_taken : Option Addr} {sl_law_taken : Array (Option Value)} {oc_law_taken kV_law_taken dc_law_taken pm_law_taken cd_law_taken ct_law_taken : Value} {f_law_taken : Addr}
    (a_law_taken : PySem.W.nsIn K mainGlobals "_law_taken" = some (some (.ref f_law_taken))) (l_law_taken : K.lookup f_law_taken = some ⟨oc_law_taken, od_law_taken, .func (PySem.W.fnOf "_law_taken" "_law_taken" (defArgs s_law_taken) (defBody s_law_taken) (defScope s_law_taken) .none kV_law_taken dc_law_taken pm_law_taken an_law_taken cd_law_taken ct_law_taken), sl_law_taken⟩) (c_law_taken : PySem.W.codeIn K cd_law_taken "_law_taken" = true) (k_law_taken : PySem.W.keepIn K (.ref f_law_taken) = true)
    {od_law_pick an_law_pick : Option Addr} {sl_law_pick : Array (Option Value)} {oc_law_pick kV_law_pick dc_law_pick pm_law_pick cd_law_pick ct_law_pick : Value} {f_law_pick : Addr}
    (a_law_pick : PySem.W.nsIn K mainGlobals "_law_pick" = some (some (.ref f_law_pick))) (l_law_pick : K.lookup f_law_pick = some ⟨oc_law_pick, od_law_pick, .func (PySem.W.fnOf "_law_pick" "_law_pick" (defArgs s_law_pick) (defBody s_law_pick) (defScope s_law_pick) .none kV_law_pick dc_law_pick pm_law_pick an_law_pick cd_law_pick ct_law_pick), sl_law_pick⟩) (c_law_pick : PySem.W.codeIn K cd_law_pick "_law_pick" = true) (k_law_pick : PySem.W.keepIn K (.ref f_law_pick) = true)
    {od_law_state an_law_state : Option Addr} {sl_law_state : Array (Option Value)} {oc_law_state kV_law_state dc_law_state pm_law_state cd_law_state ct_law_state : Value} {f_law_state : Addr}
    (a_law_state : PySem.W.nsIn K mainGlobals "_law_state" = some (some (.ref f_law_state))) (l_law_state : K.lookup f_law_state = some ⟨oc_law_state, od_law_state, .func (PySem.W.fnOf "_law_state" "_law_state" (defArgs s_law_state) (defBody s_law_state) (defScope s_law_state) .none kV_law_state dc_law_state pm_law_state an_law_state cd_law_state ct_law_state), sl_law_state⟩) (c_law_state : PySem.W.codeIn K cd_law_state "_law_state" = true) (k_law_state : PySem.W.keepIn K (.ref f_law_state) = true)
    {od_law_part an_law_part : Option Addr} {sl_law_part : Array (Option Value)} {oc_law_part kV_law_part dc_law_part pm_law_part cd_law_part ct_law_part : Value} {f_law_part : Addr}
    (a_law_part : PySem.W.nsIn K mainGlobals "_law_part" = some (some (.ref f_law_part))) (l_law_part : K.lookup f_law_part = some ⟨oc_law_part, od_law_part, .func (PySem.W.fnOf "_law_part" "_law_part" (defArgs s_law_part) (defBody s_law_part) (defScope s_law_part) .none kV_law_part dc_law_part pm_law_part an_law_part cd_law_part ct_law_part), sl_law_part⟩) (c_law_part : PySem.W.codeIn K cd_law_part "_law_part" = true) (k_law_part : PySem.W.keepIn K (.ref f_law_part) = true)
    {od_has_items an_has_items : Option Addr} {sl_has_items : Array (Option Value)} {oc_has_items kV_has_items dc_has_items pm_has_items cd_has_items ct_has_items : Value} {f_has_items : Addr}
    (a_has_items : PySem.W.nsIn K mainGlobals "has_items" = some (some (.ref f_has_items))) (l_has_items : K.lookup f_has_items = some ⟨oc_has_items, od_has_items, .func (PySem.W.fnOf "has_items" "has_items" (defArgs s_has_items) (defBody s_has_items) (defScope s_has_items) .none kV_has_items dc_has_items pm_has_items an_has_items cd_has_items ct_has_items), sl_has_items⟩) (c_has_items : PySem.W.codeIn K cd_has_items "has_items" = true) (k_has_items : PySem.W.keepIn K (.ref f_has_items) = true)
    {od_is_rising an_is_rising : Option Addr} {sl_is_rising : Array (Option Value)} {oc_is_rising kV_is_rising dc_is_rising pm_is_rising cd_is_rising ct_is_rising : Value} {f_is_rising : Addr}
    (a_is_rising : PySem.W.nsIn K mainGlobals "is_rising" = some (some (.ref f_is_rising))) (l_is_rising : K.lookup f_is_rising = some ⟨oc_is_rising, od_is_rising, .func (PySem.W.fnOf "is_rising" "is_rising" (defArgs s_is_rising) (defBody s_is_rising) (defScope s_is_rising) .none kV_is_rising dc_is_rising pm_is_rising an_is_rising cd_is_rising ct_is_rising), sl_is_rising⟩) (c_is_rising : PySem.W.codeIn K cd_is_rising "is_rising" = true) (k_is_rising : PySem.W.keepIn K (.ref f_is_rising) = true)
    {od_is_number an_is_number : Option Addr} {sl_is_number : Array (Option Value)} {oc_is_number kV_is_number dc_is_number pm_is_number cd_is_number ct_is_number : Value} {f_is_number : Addr}
    (a_is_number : PySem.W.nsIn K mainGlobals "is_number" = some (some (.ref f_is_number))) (l_is_number : K.lookup f_is_number = some ⟨oc_is_number, od_is_number, .func (PySem.W.fnOf "is_number" "is_number" (defArgs s_is_number) (defBody s_is_number) (defScope s_is_number) .none kV_is_number dc_is_number pm_is_number an_is_number cd_is_number ct_is_number), sl_is_number⟩) (c_is_number : PySem.W.codeIn K cd_is_number "is_number" = true) (k_is_number : PySem.W.keepIn K (.ref f_is_number) = true)
    {od_is_event an_is_event : Option Addr} {sl_is_event : Array (Option Value)} {oc_is_event kV_is_event dc_is_event pm_is_event cd_is_event ct_is_event : Value} {f_is_event : Addr}
    (a_is_event : PySem.W.nsIn K mainGlobals "is_event" = some (some (.ref f_is_event))) (l_is_event : K.lookup f_is_event = some ⟨oc_is_event, od_is_event, .func (PySem.W.fnOf "is_event" "is_event" (defArgs s_is_event) (defBody s_is_event) (defScope s_is_event) .none kV_is_event dc_is_event pm_is_event an_is_event cd_is_event ct_is_event), sl_is_event⟩) (c_is_event : PySem.W.codeIn K cd_is_event "is_event" = true) (k_is_event : PySem.W.keepIn K (.ref f_is_event) = true)
    {od_is_step an_is_step : Option Addr} {sl_is_step : Array (Option Value)} {oc_is_step kV_is_step dc_is_step pm_is_step cd_is_step ct_is_step : Value} {f_is_step : Addr}
    (a_is_step : PySem.W.nsIn K mainGlobals "is_step" = some (some (.ref f_is_step))) (l_is_step : K.lookup f_is_step = some ⟨oc_is_step, od_is_step, .func (PySem.W.fnOf "is_step" "is_step" (defArgs s_is_step) (defBody s_is_step) (defScope s_is_step) .none kV_is_step dc_is_step pm_is_step an_is_step cd_is_step ct_is_step), sl_is_step⟩) (c_is_step : PySem.W.codeIn K cd_is_step "is_step" = true) (k_is_step : PySem.W.keepIn K (.ref f_is_step) = true)
    {od_is_state an_is_state : Option Addr} {sl_is_state : Array (Option Value)} {oc_is_state kV_is_state dc_is_state pm_is_state cd_is_state ct_is_state : Value} {f_is_state : Addr}
    (a_is_state : PySem.W.nsIn K mainGlobals "is_state" = some (some (.ref f_is_state))) (l_is_state : K.lookup f_is_state = some ⟨oc_is_state, od_is_state, .func (PySem.W.fnOf "is_state" "is_state" (defArgs s_is_state) (defBody s_is_state) (defScope s_is_state) .none kV_is_state dc_is_state pm_is_state an_is_state cd_is_state ct_is_state), sl_is_state⟩) (c_is_state : PySem.W.codeIn K cd_is_state "is_state" = true) (k_is_state : PySem.W.keepIn K (.ref f_is_state) = true)
    {od_check_part an_check_part : Option Addr} {sl_check_part : Array (Option Value)} {oc_check_part kV_check_part dc_check_part pm_check_part cd_check_part ct_check_part : Value} {f_check_part : Addr}
    (a_check_part : PySem.W.nsIn K mainGlobals "check_part" = some (some (.ref f_check_part))) (l_check_part : K.lookup f_check_part = some ⟨oc_check_part, od_check_part, .func (PySem.W.fnOf "check_part" "check_part" (defArgs s_check_part) (defBody s_check_part) (defScope s_check_part) .none kV_check_part dc_check_part pm_check_part an_check_part cd_check_part ct_check_part), sl_check_part⟩) (c_check_part : PySem.W.codeIn K cd_check_part "check_part" = true) (k_check_part : PySem.W.keepIn K (.ref f_check_part) = true)
    {od_numbered an_numbered : Option Addr} {sl_numbered : Array (Option Value)} {oc_numbered kV_numbered dc_numbered pm_numbered cd_numbered ct_numbered : Value} {f_numbered : Addr}
    (a_numbered : PySem.W.nsIn K mainGlobals "numbered" = some (some (.ref f_numbered))) (l_numbered : K.lookup f_numbered = some ⟨oc_numbered, od_numbered, .func (PySem.W.fnOf "numbered" "numbered" (defArgs s_numbered) (defBody s_numbered) (defScope s_numbered) .none kV_numbered dc_numbered pm_numbered an_numbered cd_numbered ct_numbered), sl_numbered⟩) (c_numbered : PySem.W.codeIn K cd_numbered "numbered" = true) (k_numbered : PySem.W.keepIn K (.ref f_numbered) = true)
    {od_renamed_state an_renamed_state : Option Addr} {sl_renamed_state : Array (Option Value)} {oc_renamed_state kV_renamed_state dc_renamed_state pm_renamed_state cd_renamed_state ct_renamed_state : Value} {f_renamed_state : Addr}
    (a_renamed_state : PySem.W.nsIn K mainGlobals "renamed_state" = some (some (.ref f_renamed_state))) (l_renamed_state : K.lookup f_renamed_state = some ⟨oc_renamed_state, od_renamed_state, .func (PySem.W.fnOf "renamed_state" "renamed_state" (defArgs s_renamed_state) (defBody s_renamed_state) (defScope s_renamed_state) .none kV_renamed_state dc_renamed_state pm_renamed_state an_renamed_state cd_renamed_state ct_renamed_state), sl_renamed_state⟩) (c_renamed_state : PySem.W.codeIn K cd_renamed_state "renamed_state" = true) (k_renamed_state : PySem.W.keepIn K (.ref f_renamed_state) = true)
    {od_alike_groups an_alike_groups : Option Addr} {sl_alike_groups : Array (Option Value)} {oc_alike_groups kV_alike_groups dc_alike_groups pm_alike_groups cd_alike_groups ct_alike_groups : Value} {f_alike_groups : Addr}
    (a_alike_groups : PySem.W.nsIn K mainGlobals "alike_groups" = some (some (.ref f_alike_groups))) (l_alike_groups : K.lookup f_alike_groups = some ⟨oc_alike_groups, od_alike_groups, .func (PySem.W.fnOf "alike_groups" "alike_groups" (defArgs s_alike_groups) (defBody s_alike_groups) (defScope s_alike_groups) .none kV_alike_groups dc_alike_groups pm_alike_groups an_alike_groups cd_alike_groups ct_alike_groups), sl_alike_groups⟩) (c_alike_groups : PySem.W.codeIn K cd_alike_groups "alike_groups" = true) (k_alike_groups : PySem.W.keepIn K (.ref f_alike_groups) = true)
    {od_coming an_coming : Option Addr} {sl_coming : Array (Option Value)} {oc_coming kV_coming dc_coming pm_coming cd_coming ct_coming : Value} {f_coming : Addr}
    (a_coming : PySem.W.nsIn K mainGlobals "coming" = some (some (.ref f_coming))) (l_coming : K.lookup f_coming = some ⟨oc_coming, od_coming, .func (PySem.W.fnOf "coming" "coming" (defArgs s_coming) (defBody s_coming) (defScope s_coming) .none kV_coming dc_coming pm_coming an_coming cd_coming ct_coming), sl_coming⟩) (c_coming : PySem.W.codeIn K cd_coming "coming" = true) (k_coming : PySem.W.keepIn K (.ref f_coming) = true)
    {od_new_names an_new_names : Option Addr} {sl_new_names : Array (Option Value)} {oc_new_names kV_new_names dc_new_names pm_new_names cd_new_names ct_new_names : Value} {f_new_names : Addr}
    (a_new_names : PySem.W.nsIn K mainGlobals "new_names" = some (some (.ref f_new_names))) (l_new_names : K.lookup f_new_names = some ⟨oc_new_names, od_new_names, .func (PySem.W.fnOf "new_names" "new_names" (defArgs s_new_names) (defBody s_new_names) (defScope s_new_names) .none kV_new_names dc_new_names pm_new_names an_new_names cd_new_names ct_new_names), sl_new_names⟩) (c_new_names : PySem.W.codeIn K cd_new_names "new_names" = true) (k_new_names : PySem.W.keepIn K (.ref f_new_names) = true)
    {od_event_web an_event_web : Option Addr} {sl_event_web : Array (Option Value)} {oc_event_web kV_event_web dc_event_web pm_event_web cd_event_web ct_event_web : Value} {f_event_web : Addr}
    (a_event_web : PySem.W.nsIn K mainGlobals "event_web" = some (some (.ref f_event_web))) (l_event_web : K.lookup f_event_web = some ⟨oc_event_web, od_event_web, .func (PySem.W.fnOf "event_web" "event_web" (defArgs s_event_web) (defBody s_event_web) (defScope s_event_web) .none kV_event_web dc_event_web pm_event_web an_event_web cd_event_web ct_event_web), sl_event_web⟩) (c_event_web : PySem.W.codeIn K cd_event_web "event_web" = true) (k_event_web : PySem.W.keepIn K (.ref f_event_web) = true)
    {od_part_that_comes an_part_that_comes : Option Addr} {sl_part_that_comes : Array (Option Value)} {oc_part_that_comes kV_part_that_comes dc_part_that_comes pm_part_that_comes cd_part_that_comes ct_part_that_comes : Value} {f_part_that_comes : Addr}
    (a_part_that_comes : PySem.W.nsIn K mainGlobals "part_that_comes" = some (some (.ref f_part_that_comes))) (l_part_that_comes : K.lookup f_part_that_comes = some ⟨oc_part_that_comes, od_part_that_comes, .func (PySem.W.fnOf "part_that_comes" "part_that_comes" (defArgs s_part_that_comes) (defBody s_part_that_comes) (defScope s_part_that_comes) .none kV_part_that_comes dc_part_that_comes pm_part_that_comes an_part_that_comes cd_part_that_comes ct_part_that_comes), sl_part_that_comes⟩) (c_part_that_comes : PySem.W.codeIn K cd_part_that_comes "part_that_comes" = true) (k_part_that_comes : PySem.W.keepIn K (.ref f_part_that_comes) = true)
    {od_part_of_fewest an_part_of_fewest : Option Addr} {sl_part_of_fewest : Array (Option Value)} {oc_part_of_fewest kV_part_of_fewest dc_part_of_fewest pm_part_of_fewest cd_part_of_fewest ct_part_of_fewest : Value} {f_part_of_fewest : Addr}
    (a_part_of_fewest : PySem.W.nsIn K mainGlobals "part_of_fewest" = some (some (.ref f_part_of_fewest))) (l_part_of_fewest : K.lookup f_part_of_fewest = some ⟨oc_part_of_fewest, od_part_of_fewest, .func (PySem.W.fnOf "part_of_fewest" "part_of_fewest" (defArgs s_part_of_fewest) (defBody s_part_of_fewest) (defScope s_part_of_fewest) .none kV_part_of_fewest dc_part_of_fewest pm_part_of_fewest an_part_of_fewest cd_part_of_fewest ct_part_of_fewest), sl_part_of_fewest⟩) (c_part_of_fewest : PySem.W.codeIn K cd_part_of_fewest "part_of_fewest" = true) (k_part_of_fewest : PySem.W.keepIn K (.ref f_part_of_fewest) = true)
    {od_least_part an_least_part : Option Addr} {sl_least_part : Array (Option Value)} {oc_least_part kV_least_part dc_least_part pm_least_part cd_least_part ct_least_part : Value} {f_least_part : Addr}
    (a_least_part : PySem.W.nsIn K mainGlobals "least_part" = some (some (.ref f_least_part))) (l_least_part : K.lookup f_least_part = some ⟨oc_least_part, od_least_part, .func (PySem.W.fnOf "least_part" "least_part" (defArgs s_least_part) (defBody s_least_part) (defScope s_least_part) .none kV_least_part dc_least_part pm_least_part an_least_part cd_least_part ct_least_part), sl_least_part⟩) (c_least_part : PySem.W.codeIn K cd_least_part "least_part" = true) (k_least_part : PySem.W.keepIn K (.ref f_least_part) = true)
    {od_law_alike an_law_alike : Option Addr} {sl_law_alike : Array (Option Value)} {oc_law_alike kV_law_alike dc_law_alike pm_law_alike cd_law_alike ct_law_alike : Value} {f_law_alike : Addr}
    (a_law_alike : PySem.W.nsIn K mainGlobals "_law_alike" = some (some (.ref f_law_alike))) (l_law_alike : K.lookup f_law_alike = some ⟨oc_law_alike, od_law_alike, .func (PySem.W.fnOf "_law_alike" "_law_alike" (defArgs s_law_alike) (defBody s_law_alike) (defScope s_law_alike) .none kV_law_alike dc_law_alike pm_law_alike an_law_alike cd_law_alike ct_law_alike), sl_law_alike⟩) (c_law_alike : PySem.W.codeIn K cd_law_alike "_law_alike" = true) (k_law_alike : PySem.W.keepIn K (.ref f_law_alike) = true)
    {od_same_parts an_same_parts : Option Addr} {sl_same_parts : Array (Option Value)} {oc_same_parts kV_same_parts dc_same_parts pm_same_parts cd_same_parts ct_same_parts : Value} {f_same_parts : Addr}
    (a_same_parts : PySem.W.nsIn K mainGlobals "same_parts" = some (some (.ref f_same_parts))) (l_same_parts : K.lookup f_same_parts = some ⟨oc_same_parts, od_same_parts, .func (PySem.W.fnOf "same_parts" "same_parts" (defArgs s_same_parts) (defBody s_same_parts) (defScope s_same_parts) .none kV_same_parts dc_same_parts pm_same_parts an_same_parts cd_same_parts ct_same_parts), sl_same_parts⟩) (c_same_parts : PySem.W.codeIn K cd_same_parts "same_parts" = true) (k_same_parts : PySem.W.keepIn K (.ref f_same_parts) = true)
    {od_count_states an_count_states : Option Addr} {sl_count_states : Array (Option Value)} {oc_count_states kV_count_states dc_count_states pm_count_states cd_count_states ct_count_states : Value} {f_count_states : Addr}
    (a_count_states : PySem.W.nsIn K mainGlobals "count_states" = some (some (.ref f_count_states))) (l_count_states : K.lookup f_count_states = some ⟨oc_count_states, od_count_states, .func (PySem.W.fnOf "count_states" "count_states" (defArgs s_count_states) (defBody s_count_states) (defScope s_count_states) .none kV_count_states dc_count_states pm_count_states an_count_states cd_count_states ct_count_states), sl_count_states⟩) (c_count_states : PySem.W.codeIn K cd_count_states "count_states" = true) (k_count_states : PySem.W.keepIn K (.ref f_count_states) = true)
    {od_trimmed_part an_trimmed_part : Option Addr} {sl_trimmed_part : Array (Option Value)} {oc_trimmed_part kV_trimmed_part dc_trimmed_part pm_trimmed_part cd_trimmed_part ct_trimmed_part : Value} {f_trimmed_part : Addr}
    (a_trimmed_part : PySem.W.nsIn K mainGlobals "trimmed_part" = some (some (.ref f_trimmed_part))) (l_trimmed_part : K.lookup f_trimmed_part = some ⟨oc_trimmed_part, od_trimmed_part, .func (PySem.W.fnOf "trimmed_part" "trimmed_part" (defArgs s_trimmed_part) (defBody s_trimmed_part) (defScope s_trimmed_part) .none kV_trimmed_part dc_trimmed_part pm_trimmed_part an_trimmed_part cd_trimmed_part ct_trimmed_part), sl_trimmed_part⟩) (c_trimmed_part : PySem.W.codeIn K cd_trimmed_part "trimmed_part" = true) (k_trimmed_part : PySem.W.keepIn K (.ref f_trimmed_part) = true)
    {od_check_number an_check_number : Option Addr} {sl_check_number : Array (Option Value)} {oc_check_number kV_check_number dc_check_number pm_check_number cd_check_number ct_check_number : Value} {f_check_number : Addr}
    (a_check_number : PySem.W.nsIn K mainGlobals "check_number" = some (some (.ref f_check_number))) (l_check_number : K.lookup f_check_number = some ⟨oc_check_number, od_check_number, .func (PySem.W.fnOf "check_number" "check_number" (defArgs s_check_number) (defBody s_check_number) (defScope s_check_number) .none kV_check_number dc_check_number pm_check_number an_check_number cd_check_number ct_check_number), sl_check_number⟩) (c_check_number : PySem.W.codeIn K cd_check_number "check_number" = true) (k_check_number : PySem.W.keepIn K (.ref f_check_number) = true)
    {od_counts_to an_counts_to : Option Addr} {sl_counts_to : Array (Option Value)} {oc_counts_to kV_counts_to dc_counts_to pm_counts_to cd_counts_to ct_counts_to : Value} {f_counts_to : Addr}
    (a_counts_to : PySem.W.nsIn K mainGlobals "counts_to" = some (some (.ref f_counts_to))) (l_counts_to : K.lookup f_counts_to = some ⟨oc_counts_to, od_counts_to, .func (PySem.W.fnOf "counts_to" "counts_to" (defArgs s_counts_to) (defBody s_counts_to) (defScope s_counts_to) .none kV_counts_to dc_counts_to pm_counts_to an_counts_to cd_counts_to ct_counts_to), sl_counts_to⟩) (c_counts_to : PySem.W.codeIn K cd_counts_to "counts_to" = true) (k_counts_to : PySem.W.keepIn K (.ref f_counts_to) = true)
    {od_rows_to an_rows_to : Option Addr} {sl_rows_to : Array (Option Value)} {oc_rows_to kV_rows_to dc_rows_to pm_rows_to cd_rows_to ct_rows_to : Value} {f_rows_to : Addr}
    (a_rows_to : PySem.W.nsIn K mainGlobals "rows_to" = some (some (.ref f_rows_to))) (l_rows_to : K.lookup f_rows_to = some ⟨oc_rows_to, od_rows_to, .func (PySem.W.fnOf "rows_to" "rows_to" (defArgs s_rows_to) (defBody s_rows_to) (defScope s_rows_to) .none kV_rows_to dc_rows_to pm_rows_to an_rows_to cd_rows_to ct_rows_to), sl_rows_to⟩) (c_rows_to : PySem.W.codeIn K cd_rows_to "rows_to" = true) (k_rows_to : PySem.W.keepIn K (.ref f_rows_to) = true)
    {od_runs an_runs : Option Addr} {sl_runs : Array (Option Value)} {oc_runs kV_runs dc_runs pm_runs cd_runs ct_runs : Value} {f_runs : Addr}
    (a_runs : PySem.W.nsIn K mainGlobals "runs" = some (some (.ref f_runs))) (l_runs : K.lookup f_runs = some ⟨oc_runs, od_runs, .func (PySem.W.fnOf "runs" "runs" (defArgs s_runs) (defBody s_runs) (defScope s_runs) .none kV_runs dc_runs pm_runs an_runs cd_runs ct_runs), sl_runs⟩) (c_runs : PySem.W.codeIn K cd_runs "runs" = true) (k_runs : PySem.W.keepIn K (.ref f_runs) = true)
    {od_resting_runs an_resting_runs : Option Addr} {sl_resting_runs : Array (Option Value)} {oc_resting_runs kV_resting_runs dc_resting_runs pm_resting_runs cd_resting_runs ct_resting_runs : Value} {f_resting_runs : Addr}
    (a_resting_runs : PySem.W.nsIn K mainGlobals "resting_runs" = some (some (.ref f_resting_runs))) (l_resting_runs : K.lookup f_resting_runs = some ⟨oc_resting_runs, od_resting_runs, .func (PySem.W.fnOf "resting_runs" "resting_runs" (defArgs s_resting_runs) (defBody s_resting_runs) (defScope s_resting_runs) .none kV_resting_runs dc_resting_runs pm_resting_runs an_resting_runs cd_resting_runs ct_resting_runs), sl_resting_runs⟩) (c_resting_runs : PySem.W.codeIn K cd_resting_runs "resting_runs" = true) (k_resting_runs : PySem.W.keepIn K (.ref f_resting_runs) = true)
    {od_law an_law : Option Addr} {sl_law : Array (Option Value)} {oc_law kV_law dc_law pm_law cd_law ct_law : Value} {f_law : Addr}
    (a_law : PySem.W.nsIn K mainGlobals "law" = some (some (.ref f_law))) (l_law : K.lookup f_law = some ⟨oc_law, od_law, .func (PySem.W.fnOf "law" "law" (defArgs s_law) (defBody s_law) (defScope s_law) .none kV_law dc_law pm_law an_law cd_law ct_law), sl_law⟩) (c_law : PySem.W.codeIn K cd_law "law" = true) (k_law : PySem.W.keepIn K (.ref f_law) = true)
    (z_all : PySem.W.nsIn K mainGlobals "all" = some none)
    (z_bool : PySem.W.nsIn K mainGlobals "bool" = some none)
    (z_enumerate : PySem.W.nsIn K mainGlobals "enumerate" = some none)
    (z_int : PySem.W.nsIn K mainGlobals "int" = some none)
    (z_isinstance : PySem.W.nsIn K mainGlobals "isinstance" = some none)
    (z_len : PySem.W.nsIn K mainGlobals "len" = some none)
    (z_list : PySem.W.nsIn K mainGlobals "list" = some none)
    (z_max : PySem.W.nsIn K mainGlobals "max" = some none)
    (z_range : PySem.W.nsIn K mainGlobals "range" = some none)
    (z_reversed : PySem.W.nsIn K mainGlobals "reversed" = some none)
    (z_sorted : PySem.W.nsIn K mainGlobals "sorted" = some none)
    (z_str : PySem.W.nsIn K mainGlobals "str" = some none)
    (z_sum : PySem.W.nsIn K mainGlobals "sum" = some none)
    (z_tuple : PySem.W.nsIn K mainGlobals "tuple" = some none)
    {t_LAST_ACTOR : Tok} (q_LAST_ACTOR : PySem.W.nsIn K mainGlobals "LAST_ACTOR" = some (some (.int 3 t_LAST_ACTOR)))
    {t_LAST_WORD : Tok} (q_LAST_WORD : PySem.W.nsIn K mainGlobals "LAST_WORD" = some (some (.int 5 t_LAST_WORD)))
    {t_MOST_EVENTS : Tok} (q_MOST_EVENTS : PySem.W.nsIn K mainGlobals "MOST_EVENTS" = some (some (.int 12 t_MOST_EVENTS)))
    {t_MOST_STATES : Tok} (q_MOST_STATES : PySem.W.nsIn K mainGlobals "MOST_STATES" = some (some (.int 255 t_MOST_STATES)))
    {ad_KINDS : Addr} {oc_KINDS : Value} {od_KINDS : Option Addr} {is_KINDS : Array Value} {no_KINDS : Nat} {sl_KINDS : Array (Option Value)} (q_KINDS : PySem.W.nsIn K mainGlobals "KINDS" = some (some (.ref ad_KINDS))) (l_KINDS : K.lookup ad_KINDS = some ⟨oc_KINDS, od_KINDS, .seq is_KINDS no_KINDS, sl_KINDS⟩) (e_KINDS : oc_KINDS = .type "tuple") (n_KINDS : is_KINDS.size ≤ sizeLine) (v_KINDS : Vals ([Str.ofString "hear", Str.ofString "say"].map V.str) is_KINDS.toList) :
    ∃ fd : FuncData, (∀ (s : Shared) (v : Value), BindsTo s fd ⟨[v], []⟩ [("script", v)]) ∧ ∀ base : Heap, K.In base → base.Ns mainGlobals mg → FnOk l.prog w K mg base CX0 11 fa fd ["script"] (spLaw K b_law 10 10104) := by
  have e := hfa.symm.trans (PySem.W.mg_of X G a_law)
  cases e
  have F_law_marks := fun_mk (st := s_law_marks) l_law_marks c_law_marks k_law_marks
  have F_law_least := fun_mk (st := s_law_least) l_law_least c_law_least k_law_least
  have F_law_taken := fun_mk (st := s_law_taken) l_law_taken c_law_taken k_law_taken
  have F_law_pick := fun_mk (st := s_law_pick) l_law_pick c_law_pick k_law_pick
  have F_law_state := fun_mk (st := s_law_state) l_law_state c_law_state k_law_state
  have F_law_part := fun_mk (st := s_law_part) l_law_part c_law_part k_law_part
  have F_has_items := fun_mk (st := s_has_items) l_has_items c_has_items k_has_items
  have F_is_rising := fun_mk (st := s_is_rising) l_is_rising c_is_rising k_is_rising
  have F_is_number := fun_mk (st := s_is_number) l_is_number c_is_number k_is_number
  have F_is_event := fun_mk (st := s_is_event) l_is_event c_is_event k_is_event
  have F_is_step := fun_mk (st := s_is_step) l_is_step c_is_step k_is_step
  have F_is_state := fun_mk (st := s_is_state) l_is_state c_is_state k_is_state
  have F_check_part := fun_mk (st := s_check_part) l_check_part c_check_part k_check_part
  have F_numbered := fun_mk (st := s_numbered) l_numbered c_numbered k_numbered
  have F_renamed_state := fun_mk (st := s_renamed_state) l_renamed_state c_renamed_state k_renamed_state
  have F_alike_groups := fun_mk (st := s_alike_groups) l_alike_groups c_alike_groups k_alike_groups
  have F_coming := fun_mk (st := s_coming) l_coming c_coming k_coming
  have F_new_names := fun_mk (st := s_new_names) l_new_names c_new_names k_new_names
  have F_event_web := fun_mk (st := s_event_web) l_event_web c_event_web k_event_web
  have F_part_that_comes := fun_mk (st := s_part_that_comes) l_part_that_comes c_part_that_comes k_part_that_comes
  have F_part_of_fewest := fun_mk (st := s_part_of_fewest) l_part_of_fewest c_part_of_fewest k_part_of_fewest
  have F_least_part := fun_mk (st := s_least_part) l_least_part c_least_part k_least_part
  have F_law_alike := fun_mk (st := s_law_alike) l_law_alike c_law_alike k_law_alike
  have F_same_parts := fun_mk (st := s_same_parts) l_same_parts c_same_parts k_same_parts
  have F_count_states := fun_mk (st := s_count_states) l_count_states c_count_states k_count_states
  have F_trimmed_part := fun_mk (st := s_trimmed_part) l_trimmed_part c_trimmed_part k_trimmed_part
  have F_check_number := fun_mk (st := s_check_number) l_check_number c_check_number k_check_number
  have F_counts_to := fun_mk (st := s_counts_to) l_counts_to c_counts_to k_counts_to
  have F_rows_to := fun_mk (st := s_rows_to) l_rows_to c_rows_to k_rows_to
  have F_runs := fun_mk (st := s_runs) l_runs c_runs k_runs
  have F_resting_runs := fun_mk (st := s_resting_runs) l_resting_runs c_resting_runs k_resting_runs
  have F_law := fun_mk (st := s_law) l_law c_law k_law
  have b_law_marks := F_law_marks.binds (ps := ["part"]) fun _ _ _ _ _ _ us hl => match us, hl with | [_], _ => rfl
  have C_law_marks : ∀ base : Heap, Callee l.prog w K mg base 1 "_law_marks" (spF K m_law_marks) := fun base => ⟨f_law_marks, _, _, ok_law_marks (k := 0) F_law_marks (PySem.W.mg_none_of X G z_range) (PySem.W.mg_none_of X G z_len) (PySem.W.mg_none_of X G z_tuple), PySem.W.mg_of X G a_law_marks, k_law_marks, b_law_marks⟩
  have b_law_least := F_law_least.binds (ps := ["part"]) fun _ _ _ _ _ _ us hl => match us, hl with | [_], _ => rfl
  have C_law_least : ∀ base : Heap, Callee l.prog w K mg base 2 "_law_least" (spF K m_law_least) := fun base => ⟨f_law_least, _, _, ok_law_least (k := 1) F_law_least ((C_law_marks base).mono (by decide)) (PySem.W.mg_none_of X G z_tuple) (PySem.W.mg_none_of X G z_len) (PySem.W.mg_none_of X G z_int), PySem.W.mg_of X G a_law_least, k_law_least, b_law_least⟩
  have b_law_taken := F_law_taken.binds (ps := ["row", "many"]) fun _ _ _ _ _ _ us hl => match us, hl with | [_, _], _ => rfl
  have C_law_taken : ∀ base : Heap, Callee l.prog w K mg base 1 "_law_taken" (spR K m_law_taken) := fun base => ⟨f_law_taken, _, _, ok_law_taken (k := 0) F_law_taken (PySem.W.mg_none_of X G z_int) (PySem.W.mg_none_of X G z_len), PySem.W.mg_of X G a_law_taken, k_law_taken, b_law_taken⟩
  have b_law_pick := F_law_pick.binds (ps := ["row", "kinds"]) fun _ _ _ _ _ _ us hl => match us, hl with | [_, _], _ => rfl
  have C_law_pick : ∀ base : Heap, Callee l.prog w K mg base 2 "_law_pick" (spR K m_law_pick) := fun base => ⟨f_law_pick, _, _, ok_law_pick (k := 1) F_law_pick ((C_law_taken base).mono (by decide)) (PySem.W.mg_none_of X G z_len), PySem.W.mg_of X G a_law_pick, k_law_pick, b_law_pick⟩
  have b_law_state := F_law_state.binds (ps := ["row", "size", "plain"]) fun _ _ _ _ _ _ us hl => match us, hl with | [_, _, _], _ => rfl
  have C_law_state : ∀ base : Heap, Callee l.prog w K mg base 3 "_law_state" (spR K m_law_state) := fun base => ⟨f_law_state, _, _, ok_law_state (k := 2) F_law_state ((C_law_taken base).mono (by decide)) ((C_law_pick base).mono (by decide)) (PySem.W.mg_none_of X G z_tuple) (PySem.W.mg_none_of X G z_sorted) (PySem.W.mg_none_of X G z_list) (PySem.W.mg_none_of X G z_range), PySem.W.mg_of X G a_law_state, k_law_state, b_law_state⟩
  have b_law_part := F_law_part.binds (ps := ["row", "most", "plain"]) fun _ _ _ _ _ _ us hl => match us, hl with | [_, _, _], _ => rfl
  have C_law_part : ∀ base : Heap, Callee l.prog w K mg base 4 "_law_part" (spR K m_law_part) := fun base => ⟨f_law_part, _, _, ok_law_part (k := 3) F_law_part ((C_law_state base).mono (by decide)) ((C_law_taken base).mono (by decide)) (PySem.W.mg_none_of X G z_tuple) (PySem.W.mg_none_of X G z_range), PySem.W.mg_of X G a_law_part, k_law_part, b_law_part⟩
  have b_has_items := F_has_items.binds (ps := ["value", "least", "most"]) fun _ _ _ _ _ _ us hl => match us, hl with | [_, _, _], _ => rfl
  have C_has_items : ∀ base : Heap, Callee l.prog w K mg base 1 "has_items" (spF K m_has_items) := fun base => ⟨f_has_items, _, _, ok_has_items (k := 0) F_has_items (PySem.W.mg_none_of X G z_len) (PySem.W.mg_none_of X G z_isinstance) (PySem.W.mg_none_of X G z_tuple), PySem.W.mg_of X G a_has_items, k_has_items, b_has_items⟩
  have b_is_rising := F_is_rising.binds (ps := ["values"]) fun _ _ _ _ _ _ us hl => match us, hl with | [_], _ => rfl
  have C_is_rising : ∀ base : Heap, Callee l.prog w K mg base 1 "is_rising" (spF K m_is_rising) := fun base => ⟨f_is_rising, _, _, ok_is_rising (k := 0) F_is_rising (PySem.W.mg_none_of X G z_all) (PySem.W.mg_none_of X G z_range) (PySem.W.mg_none_of X G z_len), PySem.W.mg_of X G a_is_rising, k_is_rising, b_is_rising⟩
  have b_is_number := F_is_number.binds (ps := ["value", "least", "most"]) fun _ _ _ _ _ _ us hl => match us, hl with | [_, _, _], _ => rfl
  have C_is_number : ∀ base : Heap, Callee l.prog w K mg base 1 "is_number" (spF K m_is_number) := fun base => ⟨f_is_number, _, _, ok_is_number (k := 0) F_is_number (PySem.W.mg_none_of X G z_isinstance) (PySem.W.mg_none_of X G z_bool) (PySem.W.mg_none_of X G z_int), PySem.W.mg_of X G a_is_number, k_is_number, b_is_number⟩
  have b_is_event := F_is_event.binds (ps := ["value"]) fun _ _ _ _ _ _ us hl => match us, hl with | [_], _ => rfl
  have C_is_event : ∀ base : Heap, Callee l.prog w K mg base 2 "is_event" (spF K m_is_event) := fun base => ⟨f_is_event, _, _, ok_is_event (k := 1) F_is_event ((C_is_number base).mono (by decide)) ((C_has_items base).mono (by decide)) l_KINDS e_KINDS n_KINDS v_KINDS (PySem.W.mg_of X G q_KINDS) (PySem.W.mg_of X G q_LAST_WORD) (PySem.W.mg_of X G q_LAST_ACTOR), PySem.W.mg_of X G a_is_event, k_is_event, b_is_event⟩
  have b_is_step := F_is_step.binds (ps := ["value", "many"]) fun _ _ _ _ _ _ us hl => match us, hl with | [_, _], _ => rfl
  have C_is_step : ∀ base : Heap, Callee l.prog w K mg base 3 "is_step" (spF K m_is_step) := fun base => ⟨f_is_step, _, _, ok_is_step (k := 2) F_is_step ((C_is_number base).mono (by decide)) ((C_is_event base).mono (by decide)) ((C_has_items base).mono (by decide)), PySem.W.mg_of X G a_is_step, k_is_step, b_is_step⟩
  have b_is_state := F_is_state.binds (ps := ["value", "many"]) fun _ _ _ _ _ _ us hl => match us, hl with | [_, _], _ => rfl
  have C_is_state : ∀ base : Heap, Callee l.prog w K mg base 4 "is_state" (spF K m_is_state) := fun base => ⟨f_is_state, _, _, ok_is_state (k := 3) F_is_state ((C_is_rising base).mono (by decide)) ((C_is_step base).mono (by decide)) ((C_has_items base).mono (by decide)) (PySem.W.mg_none_of X G z_all) (PySem.W.mg_none_of X G z_isinstance) (PySem.W.mg_none_of X G z_tuple) (PySem.W.mg_none_of X G z_bool), PySem.W.mg_of X G a_is_state, k_is_state, b_is_state⟩
  have b_check_part := F_check_part.binds (ps := ["part"]) fun _ _ _ _ _ _ us hl => match us, hl with | [_], _ => rfl
  have C_check_part : ∀ base : Heap, Callee l.prog w K mg base 5 "check_part" (spF K m_check_part) := fun base => ⟨f_check_part, _, _, ok_check_part (k := 4) F_check_part ((C_is_state base).mono (by decide)) ((C_has_items base).mono (by decide)) (PySem.W.mg_none_of X G z_enumerate) (PySem.W.mg_none_of X G z_len) (PySem.W.mg_of X G q_MOST_STATES), PySem.W.mg_of X G a_check_part, k_check_part, b_check_part⟩
  have b_numbered := F_numbered.binds (ps := ["marks"]) fun _ _ _ _ _ _ us hl => match us, hl with | [_], _ => rfl
  have C_numbered : ∀ base : Heap, Callee l.prog w K mg base 1 "numbered" (spF K m_numbered) := fun base => ⟨f_numbered, _, _, ok_numbered (k := 0) F_numbered (PySem.W.mg_none_of X G z_len), PySem.W.mg_of X G a_numbered, k_numbered, b_numbered⟩
  have b_renamed_state := F_renamed_state.binds (ps := ["state", "names"]) fun _ _ _ _ _ _ us hl => match us, hl with | [_, _], _ => rfl
  have C_renamed_state : ∀ base : Heap, Callee l.prog w K mg base 1 "renamed_state" (spF K m_renamed_state) := fun base => ⟨f_renamed_state, _, _, ok_renamed_state (k := 0) F_renamed_state (PySem.W.mg_none_of X G z_tuple), PySem.W.mg_of X G a_renamed_state, k_renamed_state, b_renamed_state⟩
  have b_alike_groups := F_alike_groups.binds (ps := ["part"]) fun _ _ _ _ _ _ us hl => match us, hl with | [_], _ => rfl
  have C_alike_groups : ∀ base : Heap, Callee l.prog w K mg base 2 "alike_groups" (spF K m_alike_groups) := fun base => ⟨f_alike_groups, _, _, ok_alike_groups (k := 1) F_alike_groups ((C_numbered base).mono (by decide)) ((C_renamed_state base).mono (by decide)) (PySem.W.mg_none_of X G z_max) (PySem.W.mg_none_of X G z_range) (PySem.W.mg_none_of X G z_len), PySem.W.mg_of X G a_alike_groups, k_alike_groups, b_alike_groups⟩
  have b_coming := F_coming.binds (ps := ["web", "start"]) fun _ _ _ _ _ _ us hl => match us, hl with | [_, _], _ => rfl
  have C_coming : ∀ base : Heap, Callee l.prog w K mg base 1 "coming" (spF K m_coming) := fun base => ⟨f_coming, _, _, ok_coming (k := 0) F_coming (PySem.W.mg_none_of X G z_len), PySem.W.mg_of X G a_coming, k_coming, b_coming⟩
  have b_new_names := F_new_names.binds (ps := ["order"]) fun _ _ _ _ _ _ us hl => match us, hl with | [_], _ => rfl
  have C_new_names : ∀ base : Heap, Callee l.prog w K mg base 1 "new_names" (spF K m_new_names) := fun base => ⟨f_new_names, _, _, ok_new_names (k := 0) F_new_names (PySem.W.mg_none_of X G z_enumerate), PySem.W.mg_of X G a_new_names, k_new_names, b_new_names⟩
  have b_event_web := F_event_web.binds (ps := ["part"]) fun _ _ _ _ _ _ us hl => match us, hl with | [_], _ => rfl
  have C_event_web : ∀ base : Heap, Callee l.prog w K mg base 1 "event_web" (spF K m_event_web) := fun base => ⟨f_event_web, _, _, ok_event_web (k := 0) F_event_web, PySem.W.mg_of X G a_event_web, k_event_web, b_event_web⟩
  have b_part_that_comes := F_part_that_comes.binds (ps := ["part"]) fun _ _ _ _ _ _ us hl => match us, hl with | [_], _ => rfl
  have C_part_that_comes : ∀ base : Heap, Callee l.prog w K mg base 2 "part_that_comes" (spF K m_part_that_comes) := fun base => ⟨f_part_that_comes, _, _, ok_part_that_comes (k := 1) F_part_that_comes ((C_renamed_state base).mono (by decide)) ((C_new_names base).mono (by decide)) ((C_coming base).mono (by decide)) ((C_event_web base).mono (by decide)) (PySem.W.mg_none_of X G z_tuple), PySem.W.mg_of X G a_part_that_comes, k_part_that_comes, b_part_that_comes⟩
  have b_part_of_fewest := F_part_of_fewest.binds (ps := ["part"]) fun _ _ _ _ _ _ us hl => match us, hl with | [_], _ => rfl
  have C_part_of_fewest : ∀ base : Heap, Callee l.prog w K mg base 3 "part_of_fewest" (spF K m_part_of_fewest) := fun base => ⟨f_part_of_fewest, _, _, ok_part_of_fewest (k := 2) F_part_of_fewest ((C_part_that_comes base).mono (by decide)) ((C_renamed_state base).mono (by decide)) ((C_alike_groups base).mono (by decide)) (PySem.W.mg_none_of X G z_tuple) (PySem.W.mg_none_of X G z_range) (PySem.W.mg_none_of X G z_max), PySem.W.mg_of X G a_part_of_fewest, k_part_of_fewest, b_part_of_fewest⟩
  have b_least_part := F_least_part.binds (ps := ["part"]) fun _ _ _ _ _ _ us hl => match us, hl with | [_], _ => rfl
  have C_least_part : ∀ base : Heap, Callee l.prog w K mg base 6 "least_part" (spF K m_least_part) := fun base => ⟨f_least_part, _, _, ok_least_part (k := 5) F_least_part ((C_part_of_fewest base).mono (by decide)) ((C_check_part base).mono (by decide)), PySem.W.mg_of X G a_least_part, k_least_part, b_least_part⟩
  have b_law_alike := F_law_alike.binds (ps := ["found", "due"]) fun _ _ _ _ _ _ us hl => match us, hl with | [_, _], _ => rfl
  have C_law_alike : ∀ base : Heap, Callee l.prog w K mg base 10 "_law_alike" (spF K (m_law_alike 9)) := fun base => ⟨f_law_alike, _, _, ok_law_alike (k := 1) F_law_alike (PySem.W.mg_of X G a_law_alike) b_law_alike (PySem.W.mg_none_of X G z_isinstance) (PySem.W.mg_none_of X G z_bool) (PySem.W.mg_none_of X G z_int) (PySem.W.mg_none_of X G z_str) (PySem.W.mg_none_of X G z_tuple) (PySem.W.mg_none_of X G z_list) (PySem.W.mg_none_of X G z_range) (PySem.W.mg_none_of X G z_len) 9, PySem.W.mg_of X G a_law_alike, k_law_alike, b_law_alike⟩
  have b_same_parts := F_same_parts.binds (ps := ["one", "other"]) fun _ _ _ _ _ _ us hl => match us, hl with | [_, _], _ => rfl
  have C_same_parts : ∀ base : Heap, Callee l.prog w K mg base 7 "same_parts" (spF K m_same_parts) := fun base => ⟨f_same_parts, _, _, ok_same_parts (k := 6) F_same_parts ((C_least_part base).mono (by decide)), PySem.W.mg_of X G a_same_parts, k_same_parts, b_same_parts⟩
  have b_count_states := F_count_states.binds (ps := ["part"]) fun _ _ _ _ _ _ us hl => match us, hl with | [_], _ => rfl
  have C_count_states : ∀ base : Heap, Callee l.prog w K mg base 7 "count_states" (spF K m_count_states) := fun base => ⟨f_count_states, _, _, ok_count_states (k := 6) F_count_states ((C_least_part base).mono (by decide)) (PySem.W.mg_none_of X G z_len), PySem.W.mg_of X G a_count_states, k_count_states, b_count_states⟩
  have b_trimmed_part := F_trimmed_part.binds (ps := ["part"]) fun _ _ _ _ _ _ us hl => match us, hl with | [_], _ => rfl
  have C_trimmed_part : ∀ base : Heap, Callee l.prog w K mg base 6 "trimmed_part" (spF K m_trimmed_part) := fun base => ⟨f_trimmed_part, _, _, ok_trimmed_part (k := 5) F_trimmed_part ((C_part_that_comes base).mono (by decide)) ((C_check_part base).mono (by decide)), PySem.W.mg_of X G a_trimmed_part, k_trimmed_part, b_trimmed_part⟩
  have b_check_number := F_check_number.binds (ps := ["value", "least", "most"]) fun _ _ _ _ _ _ us hl => match us, hl with | [_, _, _], _ => rfl
  have C_check_number : ∀ base : Heap, Callee l.prog w K mg base 2 "check_number" (spF K m_check_number) := fun base => ⟨f_check_number, _, _, ok_check_number (k := 1) F_check_number ((C_is_number base).mono (by decide)), PySem.W.mg_of X G a_check_number, k_check_number, b_check_number⟩
  have b_counts_to := F_counts_to.binds (ps := ["web", "goals", "many"]) fun _ _ _ _ _ _ us hl => match us, hl with | [_, _, _], _ => rfl
  have C_counts_to : ∀ base : Heap, Callee l.prog w K mg base 1 "counts_to" (spF K m_counts_to) := fun base => ⟨f_counts_to, _, _, ok_counts_to (k := 0) F_counts_to (PySem.W.mg_none_of X G z_range) (PySem.W.mg_none_of X G z_sum) (PySem.W.mg_none_of X G z_len) (PySem.W.mg_none_of X G z_int), PySem.W.mg_of X G a_counts_to, k_counts_to, b_counts_to⟩
  have b_rows_to := F_rows_to.binds (ps := ["web", "goals", "many"]) fun _ _ _ _ _ _ us hl => match us, hl with | [_, _, _], _ => rfl
  have C_rows_to : ∀ base : Heap, Callee l.prog w K mg base 2 "rows_to" (spF K m_rows_to) := fun base => ⟨f_rows_to, _, _, ok_rows_to (k := 1) F_rows_to ((C_counts_to base).mono (by decide)) (PySem.W.mg_none_of X G z_reversed) (PySem.W.mg_none_of X G z_range), PySem.W.mg_of X G a_rows_to, k_rows_to, b_rows_to⟩
  have b_runs := F_runs.binds (ps := ["part", "many"]) fun _ _ _ _ _ _ us hl => match us, hl with | [_, _], _ => rfl
  have C_runs : ∀ base : Heap, Callee l.prog w K mg base 6 "runs" (spF K m_runs) := fun base => ⟨f_runs, _, _, ok_runs (k := 5) F_runs ((C_rows_to base).mono (by decide)) ((C_event_web base).mono (by decide)) ((C_check_number base).mono (by decide)) ((C_check_part base).mono (by decide)) (PySem.W.mg_none_of X G z_list) (PySem.W.mg_none_of X G z_range) (PySem.W.mg_none_of X G z_len) (PySem.W.mg_of X G q_MOST_EVENTS), PySem.W.mg_of X G a_runs, k_runs, b_runs⟩
  have b_resting_runs := F_resting_runs.binds (ps := ["part", "many"]) fun _ _ _ _ _ _ us hl => match us, hl with | [_, _], _ => rfl
  have C_resting_runs : ∀ base : Heap, Callee l.prog w K mg base 6 "resting_runs" (spF K m_resting_runs) := fun base => ⟨f_resting_runs, _, _, ok_resting_runs (k := 5) F_resting_runs ((C_rows_to base).mono (by decide)) ((C_event_web base).mono (by decide)) ((C_check_number base).mono (by decide)) ((C_check_part base).mono (by decide)) (PySem.W.mg_none_of X G z_range) (PySem.W.mg_none_of X G z_len) (PySem.W.mg_of X G q_MOST_EVENTS), PySem.W.mg_of X G a_resting_runs, k_resting_runs, b_resting_runs⟩
  exact ⟨_, fun s v => .of_eq rfl, fun base _ _ => ok_law (k := 10) F_law ((C_count_states base).mono (by decide)) ((C_trimmed_part base).mono (by decide)) ((C_same_parts base).mono (by decide)) ((C_least_part base).mono (by decide)) ((C_resting_runs base).mono (by decide)) ((C_runs base).mono (by decide)) ((C_law_alike base).mono (by decide)) ((C_law_least base).mono (by decide)) ((C_law_taken base).mono (by decide)) ((C_law_part base).mono (by decide)) (PySem.W.mg_none_of X G z_len) (PySem.W.mg_none_of X G z_range) (PySem.W.mg_none_of X G z_tuple)⟩
theorem only_seq {K : PySem.W.Frag} {H : Hp} {a : Addr} {xs : List V} (hO : Only H) (h : SqL K H a xs) : (∃ o, H a = some (.frz o (.lst xs))) ∨ SqL K (fun _ => none) a xs := by
  rcases h with (h | ⟨o, h⟩) | h
  · rcases hO a with q | ⟨o, ys, q⟩
    · rw [q] at h; cases h
    · rw [q] at h; cases h
  · exact .inl ⟨o, h⟩
  · exact .inr (.inr h)
end
end Lw
open PySem PySem.W PyProof.Rows
set_option maxHeartbeats 0 in
theorem PySem.Challenge.cw_roletalks_k04_whole_parts_that_do_the_sa_holds : PySem.Challenge.rw_roletalks_k04_whole_parts_that_do_the_sa.Holds := by
  w_on; o_law; k_head; (case hw => w_witness2)
  k_fill
  refine L2.walk_of (l := PySem.Challenge.rw_roletalks_k04_whole_parts_that_do_the_sa) (n := 63) (k := 11) (x := "script") (CX := fun _ => L2.CX0) (sp := fun w => RT.spLaw _ Lw.b_law 10 10104) rfl (by decide) rfl ⟨rfl, by decide, by decide⟩ (fun w h Y => PySem.W.kIn_of Y) ?F (fun _ H a ns hl hO hS => by
    obtain ⟨x', e⟩ := Lw.main ns hl
    exact ⟨[], a, ns, x', RT.tok_nil (by rfl), (fun _ h => nomatch h), rfl, Lw.only_seq hO hS, e, fun _ => rfl⟩) (fun _ _ _ _ _ h => h)
  case F =>
    intro w mg fa h KX G hmg
    refine' Lw.all_mk KX G hmg ?a_law_marks ?l_law_marks ?c_law_marks ?k_law_marks ?a_law_least ?l_law_least ?c_law_least ?k_law_least ?a_law_taken ?l_law_taken ?c_law_taken ?k_law_taken ?a_law_pick ?l_law_pick ?c_law_pick ?k_law_pick ?a_law_state ?l_law_state ?c_law_state ?k_law_state ?a_law_part ?l_law_part ?c_law_part ?k_law_part ?a_has_items ?l_has_items ?c_has_items ?k_has_items ?a_is_rising ?l_is_rising ?c_is_rising ?k_is_rising ?a_is_number ?l_is_number ?c_is_number ?k_is_number ?a_is_event ?l_is_event ?c_is_event ?k_is_event ?a_is_step ?l_is_step ?c_is_step ?k_is_step ?a_is_state ?l_is_state ?c_is_state ?k_is_state ?a_check_part ?l_check_part ?c_check_part ?k_check_part ?a_numbered ?l_numbered ?c_numbered ?k_numbered ?a_renamed_state ?l_renamed_state ?c_renamed_state ?k_renamed_state ?a_alike_groups ?l_alike_groups ?c_alike_groups ?k_alike_groups ?a_coming ?l_coming ?c_coming ?k_coming ?a_new_names ?l_new_names ?c_new_names ?k_new_names ?a_event_web ?l_event_web ?c_event_web ?k_event_web ?a_part_that_comes ?l_part_that_comes ?c_part_that_comes ?k_part_that_comes ?a_part_of_fewest ?l_part_of_fewest ?c_part_of_fewest ?k_part_of_fewest ?a_least_part ?l_least_part ?c_least_part ?k_least_part ?a_law_alike ?l_law_alike ?c_law_alike ?k_law_alike ?a_same_parts ?l_same_parts ?c_same_parts ?k_same_parts ?a_count_states ?l_count_states ?c_count_states ?k_count_states ?a_trimmed_part ?l_trimmed_part ?c_trimmed_part ?k_trimmed_part ?a_check_number ?l_check_number ?c_check_number ?k_check_number ?a_counts_to ?l_counts_to ?c_counts_to ?k_counts_to ?a_rows_to ?l_rows_to ?c_rows_to ?k_rows_to ?a_runs ?l_runs ?c_runs ?k_runs ?a_resting_runs ?l_resting_runs ?c_resting_runs ?k_resting_runs ?a_law ?l_law ?c_law ?k_law ?z_all ?z_bool ?z_enumerate ?z_int ?z_isinstance ?z_len ?z_list ?z_max ?z_range ?z_reversed ?z_sorted ?z_str ?z_sum ?z_tuple ?q_LAST_ACTOR ?q_LAST_WORD ?q_MOST_EVENTS ?q_MOST_STATES ?q_KINDS ?l_KINDS ?e_KINDS ?n_KINDS ?v_KINDS
    (case a_law_marks => k_is); (case l_law_marks => k_is); (case c_law_marks => k_is); (case k_law_marks => k_is); (case a_law_least => k_is); (case l_law_least => k_is); (case c_law_least => k_is); (case k_law_least => k_is); (case a_law_taken => k_is); (case l_law_taken => k_is); (case c_law_taken => k_is); (case k_law_taken => k_is); (case a_law_pick => k_is); (case l_law_pick => k_is); (case c_law_pick => k_is); (case k_law_pick => k_is); (case a_law_state => k_is); (case l_law_state => k_is); (case c_law_state => k_is); (case k_law_state => k_is); (case a_law_part => k_is); (case l_law_part => k_is); (case c_law_part => k_is); (case k_law_part => k_is); (case a_has_items => k_is); (case l_has_items => k_is); (case c_has_items => k_is); (case k_has_items => k_is); (case a_is_rising => k_is); (case l_is_rising => k_is); (case c_is_rising => k_is); (case k_is_rising => k_is); (case a_is_number => k_is); (case l_is_number => k_is); (case c_is_number => k_is); (case k_is_number => k_is); (case a_is_event => k_is); (case l_is_event => k_is); (case c_is_event => k_is); (case k_is_event => k_is); (case a_is_step => k_is); (case l_is_step => k_is); (case c_is_step => k_is); (case k_is_step => k_is); (case a_is_state => k_is); (case l_is_state => k_is); (case c_is_state => k_is); (case k_is_state => k_is); (case a_check_part => k_is); (case l_check_part => k_is); (case c_check_part => k_is); (case k_check_part => k_is); (case a_numbered => k_is); (case l_numbered => k_is); (case c_numbered => k_is); (case k_numbered => k_is); (case a_renamed_state => k_is); (case l_renamed_state => k_is); (case c_renamed_state => k_is); (case k_renamed_state => k_is); (case a_alike_groups => k_is); (case l_alike_groups => k_is); (case c_alike_groups => k_is); (case k_alike_groups => k_is); (case a_coming => k_is); (case l_coming => k_is); (case c_coming => k_is); (case k_coming => k_is); (case a_new_names => k_is); (case l_new_names => k_is); (case c_new_names => k_is); (case k_new_names => k_is); (case a_event_web => k_is); (case l_event_web => k_is); (case c_event_web => k_is); (case k_event_web => k_is); (case a_part_that_comes => k_is); (case l_part_that_comes => k_is); (case c_part_that_comes => k_is); (case k_part_that_comes => k_is); (case a_part_of_fewest => k_is); (case l_part_of_fewest => k_is); (case c_part_of_fewest => k_is); (case k_part_of_fewest => k_is); (case a_least_part => k_is); (case l_least_part => k_is); (case c_least_part => k_is); (case k_least_part => k_is); (case a_law_alike => k_is); (case l_law_alike => k_is); (case c_law_alike => k_is); (case k_law_alike => k_is); (case a_same_parts => k_is); (case l_same_parts => k_is); (case c_same_parts => k_is); (case k_same_parts => k_is); (case a_count_states => k_is); (case l_count_states => k_is); (case c_count_states => k_is); (case k_count_states => k_is); (case a_trimmed_part => k_is); (case l_trimmed_part => k_is); (case c_trimmed_part => k_is); (case k_trimmed_part => k_is); (case a_check_number => k_is); (case l_check_number => k_is); (case c_check_number => k_is); (case k_check_number => k_is); (case a_counts_to => k_is); (case l_counts_to => k_is); (case c_counts_to => k_is); (case k_counts_to => k_is); (case a_rows_to => k_is); (case l_rows_to => k_is); (case c_rows_to => k_is); (case k_rows_to => k_is); (case a_runs => k_is); (case l_runs => k_is); (case c_runs => k_is); (case k_runs => k_is); (case a_resting_runs => k_is); (case l_resting_runs => k_is); (case c_resting_runs => k_is); (case k_resting_runs => k_is); (case a_law => k_is); (case l_law => k_is); (case c_law => k_is); (case k_law => k_is); (case z_all => k_is); (case z_bool => k_is); (case z_enumerate => k_is); (case z_int => k_is); (case z_isinstance => k_is); (case z_len => k_is); (case z_list => k_is); (case z_max => k_is); (case z_range => k_is); (case z_reversed => k_is); (case z_sorted => k_is); (case z_str => k_is); (case z_sum => k_is); (case z_tuple => k_is); (case q_LAST_ACTOR => k_is); (case q_LAST_WORD => k_is); (case q_MOST_EVENTS => k_is); (case q_MOST_STATES => k_is); (case q_KINDS => k_is); (case l_KINDS => k_is); (case e_KINDS => rfl); (case n_KINDS => decide +kernel); (case v_KINDS => exact (.cons ⟨_, rfl⟩ (.cons ⟨_, rfl⟩ .nil)))
