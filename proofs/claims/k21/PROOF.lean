import PyProof.Rows.All
import Wide.All
import OpenK.AllK
import Wide.FinOn
import HandS.ForMost
import HandS.Deep
import HandS.DictComp
import HandS.TupAny
import HandS.IsInst
import KE.KDictKeyed
import HandS.Lambda
import HandS.EndTab
import HandS.Conv
import HandS.TupLen
import HandS.SortInts
import KE.GoesEnum
import HandS.SetBool
import HandS.TupSets
import HandS.Style
import HandS.RevRange
import KE.KDictPairs
import KE.SortData
import HandS.SortRule
import KE.KDictDisplayH
import HandS.Zip
import HandS.SetFor
import HandS.Nested
import HandS.SetKeys
import KE.KDictSum
import HandS.ExcValue
import KE.DataMinMax
import PyProof.DictTruth
import HandS.Records
import PyProof.AutoSeq1
import HandS.Strs
import HandS.Flow
import HandS.TupMul
import HandS.DictSubView
import KE.KDictCopyH
import HandS.SortKw
import HandS.WordsExc
import HandS.ExcOwn
import HandS.ExcIs
import KE.KExcIs
import HandS.ExcInit
import HandS.FStr
import PyProof.FString2
import PyProof.Rows.RegStrFacts
import PySem.Challenge.RW_roletalks_k21_whole_part_changes
set_option Elab.async false
set_option linter.all false
set_option maxRecDepth 100000
set_option maxHeartbeats 4000000
/-! A layer over the hand layer: expressions and statements as functions on plain data. -/
namespace RT
open PySem PySem.Spec PyProof.Rows L2
inductive D where
  | none
  | bool (b : Bool)
  | int (i : Int)
  | str (x : Str)
  | list (xs : List D)
  | tuple (xs : List D)
  | dict (kvs : List (D × D))
  | dictT (kvs : List (D × D))
  | sets (ns : List Int)
mutual
def D.py : D → PyData
  | .none => .none
  | .bool b => .bool b
  | .int i => .int i
  | .str x => .str x
  | .list xs => .list (pyAll xs)
  | .tuple xs => .tuple (pyAll xs)
  | .dict _ => .dict []
  | .dictT _ => .dict []
  | .sets _ => .dict []
def pyAll : List D → List PyData
  | [] => []
  | x :: xs => D.py x :: pyAll xs
end
def shapedD (d : D) : Bool := SeqAt.shaped d.py
def eqD (d e : D) : Bool := PyData.eqv d.py e.py
structure FRow where
  ns : List Int
  a : Int
  b : Int
  c : Int
inductive OwD where
  | lst (ds : List D) | dk (ds : List (D × D)) | dt (ds : List (D × D))
def OwD.d : OwD → D
  | .lst ds => .list ds
  | .dk ds => .dict ds
  | .dt ds => .dictT ds
inductive FSl where
  | no | va (d : D) | ow (d : OwD) | rw
  /-- an owned dict with keys of any kind -/
  | da (ds : List (D × D))
  /-- an owned list or dict of owned lists -/
  | nd (d : OwD)
  /-- a function made here: its object, its code object, that one's name, what it captured -/
  | fn (f c : Addr) (q : Str) (gs : List (V × D))
  /-- an object that keeps what it has found: its class, what it asks, its cast, its size -/
  | sg (C : Addr) (mst : List D → Option D) (cd zd : D)
abbrev FEn := List FSl
inductive FRs where
  | nx (e : FEn) | rt (d : D) | bk (e : FEn) | ct (e : FEn)
abbrev FE := FEn → FRow → Option (D × FRow)
abbrev FT := FEn → FRow → Option (Bool × FRow)
abbrev FA := FEn → FRow → Option (List D × FRow)
abbrev FS := FEn → FRow → Option (FRs × FRow)
def keyD : L2.Key → D
  | .inl i => .int i
  | .inr x => .str x
mutual
inductive Rp (K : PySem.W.Frag) (O : Addr → Prop) (H : Hp) : V → D → Prop
  | non : Rp K O H .non .none
  | bl (b : Bool) : Rp K O H (.bl b) (.bool b)
  | int (i : Int) : Rp K O H (.int i) (.int i)
  | str (x : Str) : Rp K O H (.str x) (.str x)
  | lst {a : Addr} {xs : List V} {ds : List D} : ¬ O a → H a = some (.lst xs) → RpA K O H xs ds → Rp K O H (.ref a) (.list ds)
  | tup {a : Addr} {xs : List V} {ds : List D} : ¬ O a → H a = some (.tup xs) → RpA K O H xs ds → Rp K O H (.ref a) (.tuple ds)
  | dK {a : Addr} {kvs : List (L2.Key × V)} {ds : List (D × D)} : ¬ O a → L2.Rd H a (.dK kvs) → RpK K O H kvs ds → Rp K O H (.ref a) (.dict ds)
  | dT {a : Addr} {kvs : List (List L2.Key × V)} {ds : List (D × D)} : ¬ O a → L2.Rd H a (.dT kvs) → RpT K O H kvs ds → Rp K O H (.ref a) (.dictT ds)
inductive RpA (K : PySem.W.Frag) (O : Addr → Prop) (H : Hp) : List V → List D → Prop
  | nil : RpA K O H [] []
  | cons {v : V} {vs : List V} {d : D} {ds : List D} : Rp K O H v d → RpA K O H vs ds → RpA K O H (v :: vs) (d :: ds)
inductive RpK (K : PySem.W.Frag) (O : Addr → Prop) (H : Hp) : List (L2.Key × V) → List (D × D) → Prop
  | nil : RpK K O H [] []
  | cons {k : L2.Key} {v : V} {vs : List (L2.Key × V)} {d : D} {ds : List (D × D)} : Rp K O H v d → RpK K O H vs ds → RpK K O H ((k, v) :: vs) ((keyD k, d) :: ds)
inductive RpT (K : PySem.W.Frag) (O : Addr → Prop) (H : Hp) : List (List L2.Key × V) → List (D × D) → Prop
  | nil : RpT K O H [] []
  | cons {k : List L2.Key} {v : V} {vs : List (List L2.Key × V)} {d : D} {ds : List (D × D)} : Rp K O H v d → RpT K O H vs ds → RpT K O H ((k, v) :: vs) ((.tuple (k.map keyD), d) :: ds)
end
/-- the defs in which functions are made -/
def makers : List Str := ["set_web", "letters_from", "scenes_behind", "position_web", "why_not", "met", "shake_web", "law", "_law_parts", "_law_rest", "_law_more"]
def lamq (x : Str) : Str := x ++ ".<locals>." ++ "<lambda>"
/-- the tables of the makers' code objects, each with the name of its functions -/
def TOK (K : PySem.W.Frag) (T : List (Addr × Str)) : Prop := ∀ x ∈ makers, ∀ c P, PySem.W.tabIn K x = some (c, P) → (P, lamq x) ∈ T ∧ ∀ p ∈ T, p.1 = P → p.2 = lamq x
def isNT : HO → Bool
  | .tbl _ => false
  | _ => true
theorem isNT.ne {o : HO} (h : isNT o = true) (ps : Array Value) : o ≠ .tbl ps := fun e => by rw [e] at h; cases h
/-- a code object -/
def IsC (o : HO) : Prop := ∃ c q, o = LamX.CodeO c q
/-- what may be owned -/
def MutC : Option HO → Prop
  | some (.lst _) => True
  | some (.dK _) => True
  | some (.dT _) => True
  | some (.ext φ) => ¬ IsC (.ext φ)
  | _ => False
theorem mut_nt {o : HO} (h : MutC (some o)) : isNT o = true := by cases o <;> first | rfl | exact h.elim
theorem notC_lst {xs : List V} : ¬ IsC (.lst xs) := fun ⟨_, _, e⟩ => by unfold LamX.CodeO at e; cases e
theorem notC_dK {xs : List (L2.Key × V)} : ¬ IsC (.dK xs) := fun ⟨_, _, e⟩ => by unfold LamX.CodeO at e; cases e
theorem notC_dT {xs : List (List L2.Key × V)} : ¬ IsC (.dT xs) := fun ⟨_, _, e⟩ => by unfold LamX.CodeO at e; cases e
theorem MutC.mut {o : HO} (h : MutC (some o)) : Mut (some o) := by cases o <;> first | trivial | exact h.elim
section
variable {ω : World} {K : PySem.W.Frag} {O O' : Addr → Prop} {H H' : Hp}
/-- what is not to change stays, but for the tables of code objects -/
def Keep (O : Addr → Prop) (H H' : Hp) : Prop := ∀ a o, ¬ O a → H a = some o → isNT o = true → H' a = some o
/-- all stays, but for the tables -/
def SameT (T : List (Addr × Str)) (H H' : Hp) : Prop := (∀ a o, H a = some o → isNT o = true → H' a = some o) ∧ LamX.Tabs T H'
theorem SameT.of {T : List (Addr × Str)} (t : LamX.Tabs T H) (h : Same H H') : SameT T H H' := ⟨fun a o e _ => h a o e, t.ext h⟩
/-- nothing is there, or a table -/
def Gone (H : Hp) (p : Addr) : Prop := ∀ o, H p = some o → isNT o = false
theorem Gone.of {p : Addr} (h : H p = none) : Gone H p := fun o e => by rw [h] at e; cases e
theorem Gone.no {p : Addr} {o : HO} (h : Gone H p) (e : H p = some o) (t : isNT o = true) : False := by have := h o e; rw [t] at this; cases this
def Wid (O O' : Addr → Prop) (H : Hp) : Prop := ∀ a, O' a → O a ∨ Gone H a
theorem Wid.no (w : Wid O O' H) {a : Addr} {o : HO} (h : ¬ O a) (e : H a = some o) (t : isNT o = true := by rfl) : ¬ O' a := fun z => by
  rcases w a z with q | q
  · exact h q
  · exact q.no e t
theorem Wid.noR (w : Wid O O' H) {a : Addr} {o : HO} (h : ¬ O a) (e : L2.Rd H a o) (t : isNT o = true := by rfl) : ¬ O' a := e.elim (fun e => w.no h e t) fun ⟨_, e⟩ => w.no h e
theorem Keep.rd (k : Keep O H H') {a : Addr} {o : HO} (h : ¬ O a) (e : L2.Rd H a o) (n : isNT o = true := by rfl) : L2.Rd H' a o := e.elim (fun e => .inl (k _ _ h e n)) fun ⟨q, e⟩ => .inr ⟨q, k _ _ h e rfl⟩
/-- what is read stays to be read -/
structure Kq (O : Addr → Prop) (H H' : Hp) : Prop where
  l : ∀ a xs, ¬ O a → H a = some (.lst xs) → H' a = some (.lst xs)
  t : ∀ a xs, ¬ O a → H a = some (.tup xs) → H' a = some (.tup xs)
  d : ∀ a xs, ¬ O a → L2.Rd H a (.dT xs) → L2.Rd H' a (.dT xs)
  k : ∀ a xs, ¬ O a → L2.Rd H a (.dK xs) → L2.Rd H' a (.dK xs)
mutual
theorem Rp.mv (k : Kq O H H') : ∀ {v : V} {d : D}, Rp K O H v d → Rp K O H' v d
  | _, _, .non => .non
  | _, _, .bl b => .bl b
  | _, _, .int i => .int i
  | _, _, .str x => .str x
  | _, _, .lst h e r => .lst h (k.l _ _ h e) (RpA.mv k r)
  | _, _, .tup h e r => .tup h (k.t _ _ h e) (RpA.mv k r)
  | _, _, .dK h e r => .dK h (k.k _ _ h e) (RpK.mv k r)
  | _, _, .dT h e r => .dT h (k.d _ _ h e) (RpT.mv k r)
theorem RpA.mv (k : Kq O H H') : ∀ {v : List V} {d : List D}, RpA K O H v d → RpA K O H' v d
  | _, _, .nil => .nil
  | _, _, .cons a b => .cons (Rp.mv k a) (RpA.mv k b)
theorem RpK.mv (k : Kq O H H') : ∀ {v : List (L2.Key × V)} {d : List (D × D)}, RpK K O H v d → RpK K O H' v d
  | _, _, .nil => .nil
  | _, _, .cons a b => .cons (Rp.mv k a) (RpK.mv k b)
theorem RpT.mv (k : Kq O H H') : ∀ {v : List (List L2.Key × V)} {d : List (D × D)}, RpT K O H v d → RpT K O H' v d
  | _, _, .nil => .nil
  | _, _, .cons a b => .cons (Rp.mv k a) (RpT.mv k b)
end
mutual
theorem Rp.move (k : Keep O H H') (w : Wid O O' H) : ∀ {v : V} {d : D}, Rp K O H v d → Rp K O' H' v d
  | _, _, .non => .non
  | _, _, .bl b => .bl b
  | _, _, .int i => .int i
  | _, _, .str x => .str x
  | _, _, .lst h e r => .lst (w.no h e) (k _ _ h e rfl) (RpA.move k w r)
  | _, _, .tup h e r => .tup (w.no h e) (k _ _ h e rfl) (RpA.move k w r)
  | _, _, .dK h e r => .dK (w.noR h e) (k.rd h e) (RpK.move k w r)
  | _, _, .dT h e r => .dT (w.noR h e) (k.rd h e) (RpT.move k w r)
theorem RpA.move (k : Keep O H H') (w : Wid O O' H) : ∀ {v : List V} {d : List D}, RpA K O H v d → RpA K O' H' v d
  | _, _, .nil => .nil
  | _, _, .cons a b => .cons (Rp.move k w a) (RpA.move k w b)
theorem RpK.move (k : Keep O H H') (w : Wid O O' H) : ∀ {v : List (L2.Key × V)} {d : List (D × D)}, RpK K O H v d → RpK K O' H' v d
  | _, _, .nil => .nil
  | _, _, .cons a b => .cons (Rp.move k w a) (RpK.move k w b)
theorem RpT.move (k : Keep O H H') (w : Wid O O' H) : ∀ {v : List (List L2.Key × V)} {d : List (D × D)}, RpT K O H v d → RpT K O' H' v d
  | _, _, .nil => .nil
  | _, _, .cons a b => .cons (Rp.move k w a) (RpT.move k w b)
end
theorem Wid.refl : Wid O O H := fun _ h => .inl h
theorem Keep.of (h : Same H H') : Keep O H H' := fun a o _ e _ => h a o e
theorem Keep.ofT {T : List (Addr × Str)} (h : SameT T H H') : Keep O H H' := fun a o _ e n => h.1 a o e n
theorem RpA.length : ∀ {v : List V} {d : List D}, RpA K O H v d → v.length = d.length
  | _, _, .nil => rfl
  | _, _, .cons _ b => by rw [List.length_cons, List.length_cons, RpA.length b]
theorem RpA.app : ∀ {v w : List V} {d e : List D}, RpA K O H v d → RpA K O H w e → RpA K O H (v ++ w) (d ++ e)
  | _, _, _, _, .nil, h => h
  | _, _, _, _, .cons a b, h => .cons a (RpA.app b h)
theorem RpA.get : ∀ {v : List V} {d : List D} {i : Nat} {x : D}, RpA K O H v d → d[i]? = some x → ∃ y, v[i]? = some y ∧ Rp K O H y x
  | _, _, _, _, .nil, h => by simp at h
  | _, _, 0, _, .cons a b, h => by simp at h; subst h; exact ⟨_, rfl, a⟩
  | _, _, i + 1, _, .cons a b, h => by
    obtain ⟨y, e, r⟩ := RpA.get (i := i) b (by simpa using h)
    exact ⟨y, by simpa using e, r⟩
theorem RpA.get' : ∀ {v : List V} {d : List D} {i : Nat} {y : V}, RpA K O H v d → v[i]? = some y → ∃ x, d[i]? = some x ∧ Rp K O H y x
  | _, _, _, _, .nil, h => by simp at h
  | _, _, 0, _, .cons a b, h => by simp at h; subst h; exact ⟨_, rfl, a⟩
  | _, _, i + 1, _, .cons a b, h => by
    obtain ⟨y, e, r⟩ := RpA.get' (i := i) b (by simpa using h)
    exact ⟨y, by simpa using e, r⟩
theorem RpA.take : ∀ {v : List V} {d : List D} (n : Nat), RpA K O H v d → RpA K O H (v.take n) (d.take n)
  | _, _, 0, _ => by simp; exact .nil
  | _, _, _ + 1, .nil => .nil
  | _, _, n + 1, .cons a b => .cons a (RpA.take n b)
theorem RpA.drop : ∀ {v : List V} {d : List D} (n : Nat), RpA K O H v d → RpA K O H (v.drop n) (d.drop n)
  | _, _, 0, h => h
  | _, _, _ + 1, .nil => .nil
  | _, _, n + 1, .cons a b => RpA.drop n b
theorem RpA.ints : ∀ {v : List V} {ns : List Int}, RpA K O H v (ns.map .int) → v = ns.map V.int
  | _, [], h => by cases h; rfl
  | _, n :: ns, h => by
    cases h with
    | cons a b => cases a; rw [RpA.ints b]; rfl
theorem RpA.ofInts : ∀ (ns : List Int), RpA K O H (ns.map V.int) (ns.map .int)
  | [] => .nil
  | n :: ns => .cons (.int n) (RpA.ofInts ns)
theorem RpA.bls : ∀ {v : List V} {ns : List Bool}, RpA K O H v (ns.map .bool) → v = ns.map V.bl
  | _, [], h => by cases h; rfl
  | _, n :: ns, h => by
    cases h with
    | cons a b => cases a; rw [RpA.bls b]; rfl
mutual
theorem Rp.dp : ∀ {v : V} {d : D}, Rp K O H v d → d.py.canLay0 = true → Dp K H v d.py
  | _, _, .non, _ => by simp only [D.py]; exact .non
  | _, _, .bl b, _ => by simp only [D.py]; exact .bl b
  | _, _, .int i, _ => by simp only [D.py]; exact .int i
  | _, _, .str x, _ => by simp only [D.py]; exact .str x
  | _, _, .lst h e r, s => by simp only [D.py] at s ⊢; exact .lst (.inl (.inl e)) (RpA.dp r (by simpa [PyData.canLay0] using s))
  | _, _, .tup h e r, s => by simp only [D.py] at s ⊢; exact .tup (.inl (.inl e)) (RpA.dp r (by simpa [PyData.canLay0] using s))
  | _, _, .dK _ _ _, s => by simp [D.py, PyData.canLay0] at s
  | _, _, .dT _ _ _, s => by simp [D.py, PyData.canLay0] at s
theorem RpA.dp : ∀ {v : List V} {d : List D}, RpA K O H v d → PyData.canLayAll0 (pyAll d) = true → DpAll K H v (pyAll d)
  | _, _, .nil, _ => by simp only [pyAll]; exact .nil
  | _, _, .cons a b, h => by
    simp only [pyAll] at h ⊢
    rw [PyData.canLayAll0, Bool.and_eq_true] at h
    exact .cons (Rp.dp a h.1) (RpA.dp b h.2)
end
theorem Rp.seqT {a : Addr} {ds : List D} (h : Rp K O H (.ref a) (.tuple ds)) : ∃ xs, SqT K H a xs ∧ RpA K O H xs ds := by
  cases h with
  | tup n e r => exact ⟨_, .inl (.inl e), r⟩
theorem Rp.tupAt {v : V} {ds : List D} (h : Rp K O H v (.tuple ds)) : ∃ a xs, v = .ref a ∧ H a = some (.tup xs) ∧ RpA K O H xs ds := by
  cases h with
  | tup n e r => exact ⟨_, _, rfl, e, r⟩
theorem Rp.isRef {v : V} {ds : List D} (h : Rp K O H v (.tuple ds)) : ∃ a, v = .ref a := by cases h <;> exact ⟨_, rfl⟩
end
/-! ### the state -/
structure FG where
  O0 : Addr → Prop
  H0 : Hp
  R : Option Addr
  gs : List (V × D)
  T : List (Addr × Str)
  w : World
  /-- what the memo tells -/
  F : Option (D → Option D)
def Le (g : FG) (H H' : Hp) : Prop := ∀ a o, g.R ≠ some a → H a = some o → isNT o = true → H' a = some o
theorem Le.refl (g : FG) (H : Hp) : Le g H H := fun _ _ _ h _ => h
theorem Le.trans {g : FG} {H H1 H2 : Hp} (a : Le g H H1) (b : Le g H1 H2) : Le g H H2 := fun c o n h t => b c o n (a c o n h t) t
theorem Le.of {g : FG} {H H' : Hp} (h : Same H H') : Le g H H' := fun a o _ e _ => h a o e
theorem Le.ofT {g : FG} {T : List (Addr × Str)} {H H' : Hp} (h : SameT T H H') : Le g H H' := fun a o _ e n => h.1 a o e n
theorem Le.ofN {g : FG} {H H' : Hp} (h : LamX.ExtN H H') : Le g H H' := fun a o _ e n => h a o e (isNT.ne n)
/-- all but the tables -/
def noT (H : Hp) : Hp := fun a => match H a with
  | some o => if isNT o then some o else none
  | none => none
theorem noT_some {H : Hp} {a : Addr} {o : HO} (h : noT H a = some o) : H a = some o ∧ isNT o = true := by
  unfold noT at h
  split at h
  · split at h
    · rename_i e t; cases h; exact ⟨e, t⟩
    · cases h
  · cases h
theorem noT_of {H : Hp} {a : Addr} {o : HO} (h : H a = some o) (t : isNT o = true) : noT H a = some o := by
  unfold noT; rw [h]; simp only [t, if_true]
/-- the script -/
def RowL (K : PySem.W.Frag) (O : Addr → Prop) (H : Hp) (a0 : Addr) (ns : List Int) : Prop := (¬ O a0 ∧ L2.Rd H a0 (.lst (ns.map V.int))) ∨ SqL K (fun _ => none) a0 (ns.map V.int)
def RowAt (K : PySem.W.Frag) (O : Addr → Prop) (H : Hp) (r : Addr) (x : FRow) : Prop := ∃ a0, H r = some (.lst [.ref a0, .int x.a, .int x.b, .int x.c]) ∧ RowL K O H a0 x.ns
theorem RowL.to {K : PySem.W.Frag} {O O' : Addr → Prop} {H H' : Hp} {a0 : Addr} {ns : List Int} (q : RowL K O H a0 ns) (f : ¬ O a0 → ¬ O' a0 ∧ ∀ o, H a0 = some o → isNT o = true → H' a0 = some o) : RowL K O' H' a0 ns := by
  rcases q with ⟨n, q⟩ | q
  · obtain ⟨f1, f2⟩ := f n
    rcases q with q | ⟨o, q⟩
    · exact .inl ⟨f1, .inl (f2 _ q rfl)⟩
    · exact .inl ⟨f1, .inr ⟨o, f2 _ q rfl⟩⟩
  · exact .inr q
theorem RowL.updO {K : PySem.W.Frag} {O : Addr → Prop} {H : Hp} {a0 p : Addr} {o : HO} {ns : List Int} (q : RowL K O H a0 ns) (op : O p) : RowL K O (upd H p o) a0 ns :=
  q.to fun n => ⟨n, fun u e _ => by rw [upd_ne (show a0 ≠ p from fun z => n (z ▸ op))]; exact e⟩
theorem RowL.seq {K : PySem.W.Frag} {O : Addr → Prop} {H : Hp} {a0 : Addr} {ns : List Int} (q : RowL K O H a0 ns) : SqL K H a0 (ns.map V.int) := by
  rcases q with ⟨_, q⟩ | q
  · exact .inl q
  · rcases q with (q | ⟨o, q⟩) | q
    · cases q
    · cases q
    · exact .inr q
def OwAt (K : PySem.W.Frag) (O : Addr → Prop) (H : Hp) (a : Addr) : OwD → Prop
  | .lst ds => ∃ xs, H a = some (.lst xs) ∧ RpA K O H xs ds
  | .dk ds => ∃ kvs, H a = some (.dK kvs) ∧ RpK K O H kvs ds
  | .dt ds => ∃ kvs, H a = some (.dT kvs) ∧ RpT K O H kvs ds
/-! dicts with keys of any kind -/
mutual
def nk : D → Option NestedKey
  | .none => some .none
  | .bool b => some (.num (if b = true then 1 else 0))
  | .int i => some (.num i)
  | .str x => some (.text x)
  | .tuple xs => (nks xs).map .tup
  | _ => none
def nks : List D → Option (List NestedKey)
  | [] => some []
  | d :: ds => match nk d, nks ds with
    | some k, some ks => some (k :: ks)
    | _, _ => none
end
abbrev DaX := NestedKey × Value × Value
def RawD (w : World) (a : Addr) (xs : List DaX) (h : Heap) : Prop :=
  (a == sysModules) = false ∧ ∃ o es ep, h.get? a = some o ∧ o.ExactDict ∧ o.data = .dict es ep ∧ es.toList = xs.map (fun x => (⟨x.1.hash w, x.2.1, x.2.2⟩ : DictEntry)) ∧ (xs.map (·.1)).Nodup
def isTupD : D → Bool
  | .tuple _ => true
  | _ => false
mutual
/-- no truth value in it -/
def noB : D → Bool
  | .none => true
  | .int _ => true
  | .str _ => true
  | .tuple xs => noBs xs
  | _ => false
def noBs : List D → Bool
  | [] => true
  | d :: ds => noB d && noBs ds
end
def keyC (d : D) : Bool := isTupD d && noB d
def lf : D → Option Leaf
  | .none => some .none
  | .bool b => some (.num (if b = true then 1 else 0))
  | .int i => some (.num i)
  | .str x => some (.text x)
  | _ => none
structure DaR (K : PySem.W.Frag) (O : Addr → Prop) (H : Hp) (x : DaX) (p : D × D) : Prop where
  k : nk p.1 = some x.1
  dp : x.1.depth ≤ 8
  u : isTupD p.1 = true → ∃ v, L2.RelV v x.2.1 ∧ Rp K O H v p.1
  l : ∀ l, lf p.1 = some l → Leaf.isOf l x.2.1 = true
  v : ∃ v, L2.RelV v x.2.2 ∧ Rp K O H v p.2
def DaAt (K : PySem.W.Frag) (O : Addr → Prop) (H : Hp) (a : Addr) (w : World) (ds : List (D × D)) : Prop :=
  ∃ xs, H a = some (.ext (RawD w a xs)) ∧ Paired (DaR K O H) xs ds
theorem DaR.mv {K : PySem.W.Frag} {O O' : Addr → Prop} {H H' : Hp} {x : DaX} {p : D × D} (f : ∀ v d, Rp K O H v d → Rp K O' H' v d) (r : DaR K O H x p) : DaR K O' H' x p :=
  ⟨r.k, r.dp, fun t => let ⟨v, a, b⟩ := r.u t; ⟨v, a, f _ _ b⟩, r.l, let ⟨v, a, b⟩ := r.v; ⟨v, a, f _ _ b⟩⟩
theorem DaAt.mv {K : PySem.W.Frag} {O O' : Addr → Prop} {H H' : Hp} {a : Addr} {w : World} {ds : List (D × D)} (h : DaAt K O H a w ds) (e : ∀ o, H a = some o → isNT o = true → H' a = some o) (f : ∀ v d, Rp K O H v d → Rp K O' H' v d) : DaAt K O' H' a w ds :=
  let ⟨xs, q, r⟩ := h; ⟨xs, e _ q rfl, L2.Paired.mapP r fun _ _ => DaR.mv f⟩
/-- the list at b is a value of an owned thing -/
def Inn (H : Hp) (a b : Addr) : Prop := (∃ xs, H a = some (.lst xs) ∧ V.ref b ∈ xs) ∨ ∃ (kvs : List (List L2.Key × V)) (k : List L2.Key), H a = some (.dT kvs) ∧ (k, V.ref b) ∈ kvs
theorem Inn.of {H H' : Hp} {a b : Addr} (h : Inn H' a b) (e : H' a = H a) : Inn H a b := by unfold Inn at h ⊢; rw [← e]; exact h
def Nr (K : PySem.W.Frag) (g : FG) (O : Addr → Prop) (H : Hp) (v : V) (d : D) : Prop := ∃ (b : Addr) (es : List D) (ys : List V), v = .ref b ∧ d = .list es ∧ O b ∧ ¬ g.O0 b ∧ g.R ≠ some b ∧ H b = some (.lst ys) ∧ RpA K O H ys es
def NdAt (K : PySem.W.Frag) (g : FG) (O : Addr → Prop) (H : Hp) (a : Addr) : OwD → Prop
  | .lst ds => ∃ xs, H a = some (.lst xs) ∧ Paired (Nr K g O H) xs ds ∧ xs.Nodup ∧ V.ref a ∉ xs
  | .dt ds => ∃ kvs : List (List L2.Key × V), H a = some (.dT kvs) ∧ Paired (fun kv p => p.1 = .tuple (kv.1.map keyD) ∧ Nr K g O H kv.2 p.2) kvs ds ∧ (kvs.map (·.2)).Nodup
  | .dk _ => False
theorem NdAt.tk {K : PySem.W.Frag} {g : FG} {O : Addr → Prop} {H : Hp} {a : Addr} {d : OwD} (h : NdAt K g O H a d) : ∃ o, H a = some o ∧ isNT o = true := by
  cases d with
  | lst ds => obtain ⟨xs, e, _⟩ := h; exact ⟨_, e, rfl⟩
  | dt ds => obtain ⟨xs, e, _⟩ := h; exact ⟨_, e, rfl⟩
  | dk ds => exact h.elim
theorem paired_mem {α β : Type} {F : α → β → Prop} {a : α} : ∀ {l : List α} {m : List β}, Paired F l m → a ∈ l → ∃ b ∈ m, F a b
  | _, _, .nil, h => nomatch h
  | _, _, .cons r t, h => by
    rcases List.mem_cons.mp h with rfl | h
    · exact ⟨_, List.mem_cons_self, r⟩
    · obtain ⟨b, hb, q⟩ := paired_mem t h
      exact ⟨b, List.mem_cons_of_mem _ hb, q⟩
theorem NdAt.inn {K : PySem.W.Frag} {g : FG} {O : Addr → Prop} {H : Hp} {a b : Addr} {d : OwD} (h : NdAt K g O H a d) (i : Inn H a b) : O b ∧ ¬ g.O0 b ∧ g.R ≠ some b ∧ ∃ ys, H b = some (.lst ys) := by
  cases d with
  | lst ds =>
    obtain ⟨xs, e, r, _⟩ := h
    rcases i with ⟨zs, e2, m⟩ | ⟨zs, k, e2, m⟩
    · rw [e] at e2; cases e2
      obtain ⟨_, _, c, es, ys, rfl', _, q1, q2, q3, q4, _⟩ := paired_mem r m
      cases rfl'
      exact ⟨q1, q2, q3, _, q4⟩
    · rw [e] at e2; cases e2
  | dt ds =>
    obtain ⟨xs, e, r, _⟩ := h
    rcases i with ⟨zs, e2, m⟩ | ⟨zs, k, e2, m⟩
    · rw [e] at e2; cases e2
    · rw [e] at e2; cases e2
      obtain ⟨_, _, _, c, es, ys, rfl', _, q1, q2, q3, q4, _⟩ := paired_mem r m
      have rfl' : V.ref b = V.ref c := rfl'
      cases rfl'
      exact ⟨q1, q2, q3, _, q4⟩
  | dk ds => exact h.elim
theorem paired_imp {α β : Type} {F G : α → β → Prop} : ∀ {l : List α} {m : List β}, Paired F l m → (∀ a b, a ∈ l → F a b → G a b) → Paired G l m
  | _, _, .nil, _ => .nil
  | _, _, .cons r t, f => .cons (f _ _ List.mem_cons_self r) (paired_imp t fun a b h => f a b (List.mem_cons_of_mem _ h))
/-- nothing of an owned thing of lists changes -/
theorem NdAt.mv {K : PySem.W.Frag} {g g' : FG} {O O' : Addr → Prop} {H H' : Hp} {a : Addr} {d : OwD} (h : NdAt K g O H a d) (ea : H' a = H a) (ei : ∀ b, Inn H a b → H' b = H b) (f : ∀ v d, Rp K O H v d → Rp K O' H' v d) (fa : ∀ v d, RpA K O H v d → RpA K O' H' v d)
    (fo : ∀ b, Inn H a b → O b → ¬ g.O0 b → g.R ≠ some b → O' b ∧ ¬ g'.O0 b ∧ g'.R ≠ some b) : NdAt K g' O' H' a d := by
  cases d with
  | lst ds =>
    obtain ⟨xs, e, r, n, n2⟩ := h
    refine ⟨xs, by rw [ea]; exact e, paired_imp r fun v p m q => ?_, n, n2⟩
    obtain ⟨b, es, ys, rfl, e1, q1, q2, q3, q4, q5⟩ := q
    have i : Inn H a b := .inl ⟨xs, e, m⟩
    obtain ⟨o1, o2, o3⟩ := fo b i q1 q2 q3
    exact ⟨b, es, ys, rfl, e1, o1, o2, o3, by rw [ei b i]; exact q4, fa _ _ q5⟩
  | dt ds =>
    obtain ⟨xs, e, r, n⟩ := h
    refine ⟨xs, by rw [ea]; exact e, paired_imp r fun v p m q => ?_, n⟩
    obtain ⟨k, b, es, ys, e0, e1, q1, q2, q3, q4, q5⟩ := q
    have i : Inn H a b := .inr ⟨xs, v.1, e, by rw [← e0]; exact m⟩
    obtain ⟨o1, o2, o3⟩ := fo b i q1 q2 q3
    exact ⟨k, b, es, ys, e0, e1, o1, o2, o3, by rw [ei b i]; exact q4, fa _ _ q5⟩
  | dk ds => exact h.elim
/-- the memo: each position that it holds has its steps -/
def MemoAt (K : PySem.W.Frag) (O : Addr → Prop) (H : Hp) (a : Addr) (w : World) (F : D → Option D) (x : FRow) : Prop := ∃ ds, DaAt K O H a w ds ∧ (∀ p ∈ ds, F p.1 = some p.2 ∧ keyC p.1 = true) ∧ (ds.length : Int) ≤ x.a
def RowG (K : PySem.W.Frag) (g : FG) (O : Addr → Prop) (H : Hp) (r : Addr) (x : FRow) : Prop := match g.F with
  | none => RowAt K O H r x
  | some F => MemoAt K O H r g.w F x
theorem not_code {φ : Heap → Prop} (h : ∀ (hp : Heap), φ hp → ∃ (a : Addr) (o : Obj), hp.get? a = some o ∧ ∀ vs, o.data ≠ .fields vs) : ¬ IsC (.ext φ) := fun ⟨c, q, e⟩ => by
  have e' : φ = fun h => ∃ (oc : Obj) (vs : Array Value) (t : Tok), h.get? c = some oc ∧ oc.data = .fields vs ∧ vs[1]? = some (.str q t) := by unfold LamX.CodeO at e; injection e
  have g : ∀ n a o, Heap.get? ⟨Array.replicate n ⟨.none, none, .fields #[.none, .str q default], #[]⟩, {}⟩ a = some o → o = ⟨.none, none, .fields #[.none, .str q default], #[]⟩ := fun n a o z => by
    unfold Heap.get? at z
    rw [Array.getElem?_replicate] at z
    split at z
    · cases z
    · split at z
      · exact (Option.some.inj z).symm
      · cases z
  have k : φ ⟨Array.replicate (c + 1) ⟨.none, none, .fields #[.none, .str q default], #[]⟩, {}⟩ := by
    rw [e']
    refine ⟨⟨.none, none, .fields #[.none, .str q default], #[]⟩, #[.none, .str q default], default, ?_, rfl, rfl⟩
    unfold Heap.get?
    rw [Array.getElem?_replicate, if_pos (Nat.lt_succ_self c)]
  obtain ⟨a, o, ho, hd⟩ := h _ k
  rw [g _ _ _ ho] at hd
  exact hd _ rfl
theorem notC_raw {w : World} {a : Addr} {xs : List DaX} : ¬ IsC (.ext (RawD w a xs)) := not_code fun h R => by
  obtain ⟨_, o, es, ep, ho, _, hd, _⟩ := R
  exact ⟨a, o, ho, fun vs z => by rw [z] at hd; cases hd⟩
section
variable {K : PySem.W.Frag} {g : FG} {O O' : Addr → Prop} {H H' : Hp} {r : Addr} {x : FRow}
theorem RowG.row (q : RowG K g O H r x) (h : g.F = none) : RowAt K O H r x := by unfold RowG at q; rw [h] at q; exact q
theorem RowG.of (q : RowAt K O H r x) (h : g.F = none) : RowG K g O H r x := by unfold RowG; rw [h]; exact q
theorem RowG.memo {F : D → Option D} (q : RowG K g O H r x) (h : g.F = some F) : MemoAt K O H r g.w F x := by unfold RowG at q; rw [h] at q; exact q
theorem RowG.ofM {F : D → Option D} (q : MemoAt K O H r g.w F x) (h : g.F = some F) : RowG K g O H r x := by unfold RowG; rw [h]; exact q
theorem RowG.to (q : RowG K g O H r x) (hr : ∀ o, H r = some o → isNT o = true → H' r = some o) (f : ∀ a0, ¬ O a0 → ¬ O' a0 ∧ ∀ o, H a0 = some o → isNT o = true → H' a0 = some o) : RowG K g O' H' r x := by
  cases hF : g.F with
  | none =>
    refine .of ?_ hF
    obtain ⟨a0, e, q⟩ := q.row hF
    exact ⟨a0, hr _ e rfl, q.to (f a0)⟩
  | some F =>
    refine .ofM ?_ hF
    obtain ⟨ds, d, c, l⟩ := q.memo hF
    have kp : Keep O H H' := fun a o n e t => (f a n).2 o e t
    have wd : Wid O O' H := fun a h => .inl (Classical.byContradiction fun n => (f a n).1 h)
    exact ⟨ds, d.mv hr fun v e r => r.move kp wd, c, l⟩
theorem RowG.mv (q : RowG K g O H r x) (hr : ∀ o, H r = some o → isNT o = true → H' r = some o) (kp : Keep O H H') (wd : Wid O O' H) : RowG K g O' H' r x := by
  cases hF : g.F with
  | none =>
    refine .of ?_ hF
    obtain ⟨a0, e, q⟩ := q.row hF
    refine ⟨a0, hr _ e rfl, ?_⟩
    rcases q with ⟨n, q⟩ | q
    · exact .inl ⟨wd.noR n q, kp.rd n q⟩
    · exact .inr q
  | some F =>
    refine .ofM ?_ hF
    obtain ⟨ds, d, c, l⟩ := q.memo hF
    exact ⟨ds, d.mv hr fun v e r => r.move kp wd, c, l⟩
theorem RowG.mut (q : RowG K g O H r x) : MutC (H r) := by
  cases hF : g.F with
  | none => obtain ⟨a0, e, _⟩ := q.row hF; rw [e]; exact True.intro
  | some F => obtain ⟨ds, ⟨xs, e, _⟩, _⟩ := q.memo hF; rw [e]; exact notC_raw
theorem RowG.same (h : Same H H') (q : RowG K g O H r x) : RowG K g O H' r x := q.to (fun o e _ => h _ _ e) fun a0 n => ⟨n, fun o e _ => h _ _ e⟩
theorem RowG.sameT {T : List (Addr × Str)} (h : SameT T H H') (q : RowG K g O H r x) : RowG K g O H' r x := q.to (fun o e t => h.1 _ _ e t) fun a0 n => ⟨n, fun o e t => h.1 _ _ e t⟩
theorem RowG.ext (h : LamX.ExtN H H') (q : RowG K g O H r x) : RowG K g O H' r x := q.to (fun o e t => h _ _ e (isNT.ne t)) fun a0 n => ⟨n, fun o e t => h _ _ e (isNT.ne t)⟩
theorem RowG.sub (q : RowG K g O' H r x) (h : ∀ a, O a → O' a) : RowG K g O H r x := q.to (fun o e _ => e) fun a0 n => ⟨fun z => n (h _ z), fun o e _ => e⟩
theorem RowG.updO {p : Addr} {o : HO} (q : RowG K g O H r x) (op : O p) (ne : r ≠ p) : RowG K g O (upd H p o) r x := q.to (fun u e _ => by rw [upd_ne ne]; exact e) fun a0 n => ⟨n, fun u e _ => by rw [upd_ne (show a0 ≠ p from fun z => n (z ▸ op))]; exact e⟩
theorem RowG.new {p : Addr} {o : HO} (q : RowG K g O H r x) (hp : H p = none) : RowG K g O (upd H p o) r x := q.to (fun u e _ => by rw [upd_ne (ne_of_none e hp)]; exact e) fun a0 n => ⟨n, fun u e _ => by rw [upd_ne (ne_of_none e hp)]; exact e⟩
theorem RowG.chg (q : RowG K g O H r x) {g' : FG} (h : g'.F = g.F) (h2 : g'.w = g.w) : RowG K g' O H r x := by
  unfold RowG at q ⊢
  rw [h, h2]; exact q
end
inductive SlOk (K : PySem.W.Frag) (g : FG) (O : Addr → Prop) (H : Hp) : Option V → FSl → Prop
  | no (s : Option V) : SlOk K g O H s .no
  | va {v : V} {d : D} : Rp K O H v d → SlOk K g O H (some v) (.va d)
  | ow {a : Addr} {d : OwD} : O a → ¬ g.O0 a → g.R ≠ some a → OwAt K O H a d → SlOk K g O H (some (.ref a)) (.ow d)
  | rw {r : Addr} : g.R = some r ∧ g.F = none → SlOk K g O H (some (.ref r)) .rw
  | da {a : Addr} {ds : List (D × D)} : O a → ¬ g.O0 a → g.R ≠ some a → DaAt K O H a g.w ds → SlOk K g O H (some (.ref a)) (.da ds)
  | nd {a : Addr} {d : OwD} : O a → ¬ g.O0 a → g.R ≠ some a → NdAt K g O H a d → SlOk K g O H (some (.ref a)) (.nd d)
  | fn {f c : Addr} {q : Str} {gs : List (V × D)} : ¬ O c → H c = some (LamX.CodeO c q) → (∀ p ∈ gs, Rp K O H p.1 p.2) → SlOk K g O H (some (.ref f)) (.fn f c q gs)
  | sg {s C C0 dx d : Addr} {mst : List D → Option D} {vc vz : V} {cd zd : D} : ¬ O s → H s = some (.ins C dx [("cast", vc), ("size", vz), ("known", .ref d)]) → (∀ p ∈ [(vc, cd), (vz, zd)], Rp K O H p.1 p.2) → ((g.R = some d ∧ g.F = some fun p => mst [cd, zd, p]) ∧ PySem.W.nsIn K mainGlobals "Stage" = some (some (.ref C))) → SlOk K g O H (some (.ref s)) (.sg C0 mst cd zd)
structure FSt (ω : World) (K : PySem.W.Frag) (g : FG) (O : Addr → Prop) (σ : L2.St) (H : Hp) (env : FEn) (x : FRow) : Prop where
  sub : ∀ a, g.O0 a → O a
  new : ∀ a, O a → g.O0 a ∨ g.H0 a = none
  dom : ∀ a, O a → MutC (H a)
  le : Le g g.H0 H
  row : ∀ r, g.R = some r → g.O0 r ∧ g.H0 r ≠ none ∧ RowG K g O H r x
  len : σ.length = env.length
  sl : ∀ (i : Nat) s e, σ[i]? = some s → env[i]? = some e → SlOk K g O H s e
  dis : ∀ (i j : Nat) d d' a b, i ≠ j → env[i]? = some (.ow d) → env[j]? = some (.ow d') → σ[i]? = some (some (.ref a)) → σ[j]? = some (some (.ref b)) → a ≠ b
  /-- owned things of lists stand apart from the other ones, and there is one at most -/
  din : ∀ (i j : Nat) d d' a b, env[i]? = some (.nd d) → env[j]? = some (.ow d') → σ[i]? = some (some (.ref a)) → σ[j]? = some (some (.ref b)) → b ≠ a ∧ ¬ Inn H a b
  nn : ∀ (i j : Nat) d d', env[i]? = some (.nd d) → env[j]? = some (.nd d') → i = j
  gh : ∀ p ∈ g.gs, Rp K O H p.1 p.2
  tb : LamX.Tabs g.T H
  tk : TOK K g.T
  nt0 : ∀ a o, g.H0 a = some o → isNT o = true
  ww : g.w = ω
section
variable {ω : World} {K : PySem.W.Frag} {g : FG} {O : Addr → Prop} {σ : L2.St} {H H' : Hp} {env : FEn} {x x' : FRow}
theorem OwAt.move {O' : Addr → Prop} {a : Addr} {d : OwD} (h : OwAt K O H a d) (e : ∀ o, H a = some o → isNT o = true → H' a = some o) (k : Keep O H H') (w : Wid O O' H) : OwAt K O' H' a d := by
  cases d with
  | lst ds => obtain ⟨xs, q, r⟩ := h; exact ⟨xs, e _ q rfl, r.move k w⟩
  | dk ds => obtain ⟨xs, q, r⟩ := h; exact ⟨xs, e _ q rfl, r.move k w⟩
  | dt ds => obtain ⟨xs, q, r⟩ := h; exact ⟨xs, e _ q rfl, r.move k w⟩
theorem FSt.keep (S : FSt ω K g O σ H env x) (h : Le g H H') : Keep O H H' := fun a o n e t => h a o (fun z => n (S.sub a (S.row a z).1)) e t
/-- an expression went by: what is not the row's stays -/
theorem FSt.step (S : FSt ω K g O σ H env x) (h : Le g H H') (ht : LamX.Tabs g.T H') (hr : ∀ r, g.R = some r → RowG K g O H' r x') : FSt ω K g O σ H' env x' where
  tb := ht
  tk := S.tk
  nt0 := S.nt0
  ww := S.ww
  sub := S.sub
  new := S.new
  dom := fun a ha => by
    have z := S.dom a ha
    cases q : H a with
    | none => rw [q] at z; exact z.elim
    | some o =>
      by_cases hR : g.R = some a
      · exact (hr a hR).mut
      · rw [h a o hR q (mut_nt (by rw [q] at z; exact z)), ← q]; exact z
  le := S.le.trans h
  row := fun r e => ⟨(S.row r e).1, (S.row r e).2.1, hr r e⟩
  len := S.len
  sl := fun i s e h1 h2 => by
    have k := S.keep h
    cases S.sl i s e h1 h2 with
    | no => exact .no _
    | va r => exact .va (r.move k .refl)
    | ow a b c d => exact .ow a b c (d.move (fun o q t => h _ o c q t) k .refl)
    | rw e => exact .rw e
    | da a b c d => exact .da a b c (d.mv (fun o q t => h _ o c q t) fun _ _ r => r.move k .refl)
    | nd a b c d => exact .nd a b c (d.mv (by obtain ⟨o, q, t⟩ := d.tk; rw [q]; exact h _ o c q t) (fun b i => by obtain ⟨_, _, r, ys, q⟩ := d.inn i; rw [q]; exact h _ _ r q rfl) (fun _ _ r => r.move k .refl) (fun _ _ r => r.move k .refl) fun _ _ x y z => ⟨x, y, z⟩)
    | fn a b c => exact .fn a (k _ _ a b rfl) fun p hp => (c p hp).move k .refl
    | sg a b c zz => exact .sg a (k _ _ a b rfl) (fun p hp => (c p hp).move k .refl) zz
  dis := S.dis
  din := fun i j d d' a b h1 h2 h3 h4 => by
    have q := S.sl i _ _ h3 h1
    cases q with
    | nd _ _ c n =>
      obtain ⟨o, q, t⟩ := n.tk
      exact ⟨(S.din i j d d' a b h1 h2 h3 h4).1, fun z => (S.din i j d d' a b h1 h2 h3 h4).2 (z.of (by rw [q]; exact h _ o c q t))⟩
  nn := S.nn
  gh := fun p hp => (S.gh p hp).move (S.keep h) .refl
theorem RowAt.to {O' : Addr → Prop} {r : Addr} (q : RowAt K O H r x) (hr : ∀ o, H r = some o → isNT o = true → H' r = some o) (f : ∀ a0, ¬ O a0 → ¬ O' a0 ∧ ∀ o, H a0 = some o → isNT o = true → H' a0 = some o) : RowAt K O' H' r x := by
  obtain ⟨a0, e, q⟩ := q
  exact ⟨a0, hr _ e rfl, q.to (f a0)⟩
theorem RowAt.same {r : Addr} (h : Same H H') (q : RowAt K O H r x) : RowAt K O H' r x := q.to (fun o e _ => h _ _ e) fun a0 n => ⟨n, fun o e _ => h _ _ e⟩
theorem RowAt.sameT {T : List (Addr × Str)} {r : Addr} (h : SameT T H H') (q : RowAt K O H r x) : RowAt K O H' r x := q.to (fun o e t => h.1 _ _ e t) fun a0 n => ⟨n, fun o e t => h.1 _ _ e t⟩
theorem RowAt.ext {r : Addr} (h : LamX.ExtN H H') (q : RowAt K O H r x) : RowAt K O H' r x := q.to (fun o e t => h _ _ e (isNT.ne t)) fun a0 n => ⟨n, fun o e t => h _ _ e (isNT.ne t)⟩
theorem RowAt.sub {O' : Addr → Prop} {r : Addr} (q : RowAt K O' H r x) (h : ∀ a, O a → O' a) : RowAt K O H r x := q.to (fun o e _ => e) fun a0 n => ⟨fun z => n (h _ z), fun o e _ => e⟩
theorem FSt.same (S : FSt ω K g O σ H env x) (h : Same H H') : FSt ω K g O σ H' env x := S.step (.of h) (S.tb.ext h) fun r e => (S.row r e).2.2.same h
theorem FSt.sameT (S : FSt ω K g O σ H env x) (h : SameT g.T H H') : FSt ω K g O σ H' env x := S.step (.ofT h) h.2 fun r e => (S.row r e).2.2.sameT h
theorem notC_ow {O : Addr → Prop} {a : Addr} {d : OwD} {o : HO} (h : OwAt K O H a d) (e : H a = some o) : ¬ IsC o := by
  cases d with
  | lst ds => obtain ⟨xs, q, _⟩ := h; rw [q] at e; cases e; exact notC_lst
  | dk ds => obtain ⟨xs, q, _⟩ := h; rw [q] at e; cases e; exact notC_dK
  | dt ds => obtain ⟨xs, q, _⟩ := h; rw [q] at e; cases e; exact notC_dT
theorem tabs_upd {T : List (Addr × Str)} {a : Addr} {o o' : HO} (t : LamX.Tabs T H) (h : H a = some o) (n : isNT o = true) (c : ¬ IsC o) : LamX.Tabs T (upd H a o') := fun p hp => by
  obtain ⟨ps, h1, h2, h3⟩ := t p hp
  refine ⟨ps, by rw [upd_ne (fun z => by rw [z, h] at h1; cases h1; cases n)]; exact h1, h2, fun pos cv hc => ?_⟩
  obtain ⟨b, e1, e2⟩ := h3 pos cv hc
  exact ⟨b, e1, by rw [upd_ne (fun z => by rw [z, h] at e2; cases e2; exact c ⟨_, _, rfl⟩)]; exact e2⟩
theorem same_upd {p : Addr} {o : HO} (h : H p = none) : Same H (upd H p o) := fun b x e => by
  rw [upd_ne (ne_of_none e h)]
  exact e
theorem FSt.notO (S : FSt ω K g O σ H env x) {p : Addr} (h : H p = none) : ¬ O p := fun z => by
  have q := S.dom p z
  rw [h] at q
  exact q
end
/-! ### readings -/
def tE (ω : World) (K : PySem.W.Frag) (f : FE) : TE := fun σ H Q => ∃ g O env x d x', FSt ω K g O σ H env x ∧ f env x = some (d, x') ∧
  ∀ v H', FSt ω K g O σ H' env x' → Le g H H' → Rp K O H' v d → Q v H'
/-- borrowed: what an owned name holds, too -/
def RpB (K : PySem.W.Frag) (g : FG) (O : Addr → Prop) (H : Hp) (v : V) (d : D) : Prop := Rp K O H v d ∨ ∃ a w, v = .ref a ∧ d = OwD.d w ∧ O a ∧ g.R ≠ some a ∧ OwAt K O H a w
def tB (ω : World) (K : PySem.W.Frag) (f : FE) : TE := fun σ H Q => ∃ g O env x d x', FSt ω K g O σ H env x ∧ f env x = some (d, x') ∧
  ∀ v H', FSt ω K g O σ H' env x' → Le g H H' → RpB K g O H' v d → Q v H'
def tT (ω : World) (K : PySem.W.Frag) (f : FT) : TT := fun σ H Q => ∃ g O env x d x', FSt ω K g O σ H env x ∧ f env x = some (d, x') ∧
  ∀ H', FSt ω K g O σ H' env x' → Le g H H' → Q d H'
def tA (ω : World) (K : PySem.W.Frag) (f : FA) : TA := fun σ H Q => ∃ g O env x d x', FSt ω K g O σ H env x ∧ f env x = some (d, x') ∧
  ∀ v H', FSt ω K g O σ H' env x' → Le g H H' → RpA K O H' v d → Q v H'
def tS (ω : World) (K : PySem.W.Frag) (f : FS) : TS := fun Dn σ H => ∃ g O env x r x', FSt ω K g O σ H env x ∧ f env x = some (r, x') ∧
  match r with
  | .nx env' => ∀ O' σ' H', FSt ω K g O' σ' H' env' x' → Dn.nx σ' H'
  | .bk env' => ∀ O' σ' H', FSt ω K g O' σ' H' env' x' → Dn.bk σ' H'
  | .ct env' => ∀ O' σ' H', FSt ω K g O' σ' H' env' x' → Dn.ct σ' H'
  | .rt d => ∀ O' σ' H' v env', FSt ω K g O' σ' H' env' x' → Rp K O' H' v d → Dn.rt v H'
structure SE (X : Cx) (e : Expr) (f : FE) : Prop where
  out : PE X e (tE X.w X.K f)
structure SB (X : Cx) (e : Expr) (f : FE) : Prop where
  out : PE X e (tB X.w X.K f)
structure ST (X : Cx) (e : Expr) (f : FT) : Prop where
  out : PT X e (tT X.w X.K f)
structure SA (X : Cx) (e : List Expr) (f : FA) : Prop where
  out : PA X e (tA X.w X.K f)
structure SS (X : Cx) (e : Stmt) (f : FS) : Prop where
  out : PS X e (tS X.w X.K f)
structure SSs (X : Cx) (e : List Stmt) (f : FS) : Prop where
  out : PSs X e (tS X.w X.K f)
section
variable {X : Cx} {e : Expr} {t t' : TE}
theorem PEw (h : PE X e t) (q : ∀ σ H Q, t' σ H Q → t σ H Q) : PE X e t' := ⟨fun pins s σ H Q I z => h.run pins s σ H Q I (q _ _ _ z)⟩
theorem PTw {t t' : TT} (h : PT X e t) (q : ∀ σ H Q, t' σ H Q → t σ H Q) : PT X e t' := ⟨fun pins s σ H Q I z => h.run pins s σ H Q I (q _ _ _ z)⟩
theorem PAw {e : List Expr} {t t' : TA} (h : PA X e t) (q : ∀ σ H Q, t' σ H Q → t σ H Q) : PA X e t' := ⟨fun p pins s σ H Q I z => h.run p pins s σ H Q I (q _ _ _ z)⟩
theorem PSw {e : Stmt} {t t' : TS} (h : PS X e t) (q : ∀ σ H Q, t' σ H Q → t σ H Q) : PS X e t' := ⟨fun pins s σ H Q I z => h.run pins s σ H Q I (q _ _ _ z)⟩
theorem PSsw {e : List Stmt} {t t' : TS} (h : PSs X e t) (q : ∀ σ H Q, t' σ H Q → t σ H Q) : PSs X e t' := ⟨fun pins s σ H Q I z => h.run pins s σ H Q I (q _ _ _ z)⟩
end
/-! ### names, constants -/
section
variable {X : Cx}
def fVar (i : Nat) : FE := fun env x => match env[i]? with
  | some (.va d) => some (d, x)
  | _ => none
def fBor (i : Nat) : FE := fun env x => match env[i]? with
  | some (.va d) => some (d, x)
  | some (.ow d) => some (d.d, x)
  | _ => none
def fC (d : D) : FE := fun _ x => some (d, x)
theorem FSt.at {ω : World} {K : PySem.W.Frag} {g : FG} {O : Addr → Prop} {σ : L2.St} {H : Hp} {env : FEn} {x : FRow} (S : FSt ω K g O σ H env x) {i : Nat} {e : FSl} (h : env[i]? = some e) : ∃ s, σ[i]? = some s ∧ SlOk K g O H s e := by
  have hi : i < σ.length := by rw [S.len]; exact (List.getElem?_eq_some_iff.mp h).1
  exact ⟨_, List.getElem?_eq_getElem hi, S.sl i _ e (List.getElem?_eq_getElem hi) h⟩
theorem se_var (i : Nat) {n : Str} {pos : Pos} (hN : X.N[i]? = some n := by rfl) (hv : Vis X.env.scope n := by first | exact Or.inl rfl | exact Or.inr (Or.inl rfl) | exact Or.inr (Or.inr rfl)) (hd : (n == ("__debug__" : Str)) = false := by decide)
    (hcd : (n == ("__classdict__" : Str)) = false := by decide) : SE X (.Name n pos) (fVar i) := by
  refine ⟨PEw (pe_var hN hv hd hcd) fun σ H Q h => ?_⟩
  obtain ⟨g, O, env, x, d, x', S, e, k⟩ := h
  unfold fVar at e
  split at e
  · rename_i q
    cases e
    obtain ⟨s, e1, q1⟩ := S.at q
    cases q1 with
    | va r => exact ⟨_, e1, k _ _ S (Le.refl _ _) r⟩
  · cases e
theorem sb_var (i : Nat) {n : Str} {pos : Pos} (hN : X.N[i]? = some n := by rfl) (hv : Vis X.env.scope n := by first | exact Or.inl rfl | exact Or.inr (Or.inl rfl) | exact Or.inr (Or.inr rfl)) (hd : (n == ("__debug__" : Str)) = false := by decide)
    (hcd : (n == ("__classdict__" : Str)) = false := by decide) : SB X (.Name n pos) (fBor i) := by
  refine ⟨PEw (pe_var hN hv hd hcd) fun σ H Q h => ?_⟩
  obtain ⟨g, O, env, x, d, x', S, e, k⟩ := h
  unfold fBor at e
  split at e
  · rename_i q
    cases e
    obtain ⟨s, e1, q1⟩ := S.at q
    cases q1 with
    | va r => exact ⟨_, e1, k _ _ S (Le.refl _ _) (.inl r)⟩
  · rename_i q
    cases e
    obtain ⟨s, e1, q1⟩ := S.at q
    cases q1 with
    | ow a b c r => exact ⟨_, e1, k _ _ S (Le.refl _ _) (.inr ⟨_, _, rfl, rfl, a, c, r⟩)⟩
  · cases e
theorem sb_of {e : Expr} {f : FE} (h : SE X e f) : SB X e f := by
  refine ⟨PEw h.out fun σ H Q h => ?_⟩
  obtain ⟨g, O, env, x, d, x', S, e, k⟩ := h
  exact ⟨g, O, env, x, d, x', S, e, fun v H' S' l r => k v H' S' l (.inl r)⟩
theorem se_c {e : Expr} {v : V} {d : D} (h : PE X e (tC v)) (r : ∀ K O H, Rp K O H v d) : SE X e (fC d) := by
  refine ⟨PEw h fun σ H Q h => ?_⟩
  obtain ⟨g, O, env, x, d, x', S, e, k⟩ := h
  cases e
  exact k _ _ S (Le.refl _ _) (r _ _ _)
theorem se_int {i j pos} : SE X (.Constant (.int i) j pos) (fC (.int i)) := se_c pe_int fun _ _ _ => .int i
theorem se_bl {i j pos} : SE X (.Constant (.bool i) j pos) (fC (.bool i)) := se_c pe_bl fun _ _ _ => .bl i
theorem se_str {i j pos} : SE X (.Constant (.str i) j pos) (fC (.str i)) := se_c pe_str fun _ _ _ => .str i
theorem se_non {j pos} : SE X (.Constant .none j pos) (fC .none) := se_c pe_non fun _ _ _ => .non
/-- a constant of the module -/
theorem se_glob {n : Str} {v : V} {d : D} {u : Value} {pos : Pos} (hg : Gl X n) (hm : X.mg n = some u) (r : RelV v u) (q : ∀ K O H, Rp K O H v d) (hd : (n == ("__debug__" : Str)) = false := by decide) : SE X (.Name n pos) (fC d) := se_c (pe_glob hg hm r hd) q
/-! ### argument lists, displays -/
def aNil : FA := fun _ x => some ([], x)
def aCons (f : FE) (t : FA) : FA := fun env x => match f env x with
  | some (d, x1) => match t env x1 with
    | some (ds, x2) => some (d :: ds, x2)
    | none => none
  | none => none
theorem sa_nil : SA X [] aNil := by
  refine ⟨PAw pa_nil fun σ H Q h => ?_⟩
  obtain ⟨g, O, env, x, d, x', S, e, k⟩ := h
  cases e
  exact k _ _ S (Le.refl _ _) .nil
theorem sa_cons {e : Expr} {es : List Expr} {f : FE} {t : FA} (h : SE X e f) (ht : SA X es t) (hs : starEach (e :: es) X.env = (false, eval e X.env) :: starEach es X.env := by rfl) : SA X (e :: es) (aCons f t) := by
  refine ⟨PAw (pa_cons h.out ht.out hs) fun σ H Q h => ?_⟩
  obtain ⟨g, O, env, x, d, x', S, e, k⟩ := h
  unfold aCons at e
  split at e
  · rename_i d1 x1 e1
    split at e
    · rename_i ds x2 e2
      cases e
      refine ⟨g, O, env, x, d1, x1, S, e1, fun v H1 S1 l1 r1 => ?_⟩
      refine ⟨g, O, env, x1, ds, x', S1, e2, fun vs H2 S2 l2 r2 => ?_⟩
      exact k _ _ S2 (l1.trans l2) (.cons (r1.move (S1.keep l2) .refl) r2)
    · cases e
  · cases e
def maxLen : Nat := 1000000
theorem maxLen_ok {n : Nat} (h : n ≤ maxLen) : n ≤ sizeLine := Nat.le_trans h (by rw [sizeLine_eq]; decide)
def fTup (t : FA) : FE := fun env x => match t env x with
  | some (ds, x1) => if ds.length ≤ maxLen then some (.tuple ds, x1) else none
  | none => none
def fLst (t : FA) : FE := fun env x => match t env x with
  | some (ds, x1) => if ds.length ≤ maxLen then some (.list ds, x1) else none
  | none => none
theorem se_tup {es : List Expr} {f : FA} {k : Nat} {pos : Pos} (h : SA X es f) : SE X (.Tuple es k pos) (fTup f) := by
  refine ⟨PEw (pe_tup h.out) fun σ H Q h => ?_⟩
  obtain ⟨g, O, env, x, d, x', S, e, k⟩ := h
  unfold fTup at e
  split at e
  · rename_i ds x1 e1
    split at e
    · rename_i hl
      cases e
      refine ⟨g, O, env, x, ds, x', S, e1, fun v H1 S1 l1 r1 => ⟨by rw [r1.length]; exact maxLen_ok hl, fun p hp => ?_⟩⟩
      have sm := same_upd (o := .tup v) hp
      exact k _ _ (S1.same sm) (l1.trans (.of sm)) (.tup (S1.notO hp) upd_same (r1.move (.of sm) .refl))
    · cases e
  · cases e
theorem se_lst {es : List Expr} {f : FA} {pos : Pos} (h : SA X es f) : SE X (.List es pos) (fLst f) := by
  refine ⟨PEw (pe_lst h.out) fun σ H Q h => ?_⟩
  obtain ⟨g, O, env, x, d, x', S, e, k⟩ := h
  unfold fLst at e
  split at e
  · rename_i ds x1 e1
    split at e
    · rename_i hl
      cases e
      refine ⟨g, O, env, x, ds, x', S, e1, fun v H1 S1 l1 r1 => ⟨by rw [r1.length]; exact maxLen_ok hl, fun p hp => ?_⟩⟩
      have sm := same_upd (o := .lst v) hp
      exact k _ _ (S1.same sm) (l1.trans (.of sm)) (.lst (S1.notO hp) upd_same (r1.move (.of sm) .refl))
    · cases e
  · cases e
end
end RT
namespace RT
open PySem PySem.Spec PyProof.Rows L2
section
variable {ω : World} {K : PySem.W.Frag} {g : FG} {O O' : Addr → Prop} {σ : L2.St} {H H' : Hp} {env : FEn} {x x' : FRow}
theorem RpB.step {v : V} {d : D} (S : FSt ω K g O σ H env x) (h : Le g H H') (r : RpB K g O H v d) : RpB K g O H' v d := by
  rcases r with r | ⟨a, w, rfl, rfl, ha, hr, z⟩
  · exact .inl (r.move (S.keep h) .refl)
  · exact .inr ⟨a, w, rfl, rfl, ha, hr, z.move (fun o q t => h a o hr q t) (S.keep h) .refl⟩
theorem Rp.step {v : V} {d : D} (S : FSt ω K g O σ H env x) (h : Le g H H') (r : Rp K O H v d) : Rp K O H' v d := r.move (S.keep h) .refl
theorem RpA.step {v : List V} {d : List D} (S : FSt ω K g O σ H env x) (h : Le g H H') (r : RpA K O H v d) : RpA K O H' v d := r.move (S.keep h) .refl
/-- what is borrowed and no list, no dict is plain -/
theorem RpB.tup {v : V} {ds : List D} (r : RpB K g O H v (.tuple ds)) : Rp K O H v (.tuple ds) := by
  rcases r with r | ⟨a, w, rfl, e, ha, hr, z⟩
  · exact r
  · cases w <;> cases e
theorem RpB.int {v : V} {i : Int} (r : RpB K g O H v (.int i)) : v = .int i := by
  rcases r with r | ⟨a, w, rfl, e, ha, hr, z⟩
  · cases r; rfl
  · cases w <;> cases e
theorem RpB.bl {v : V} {i : Bool} (r : RpB K g O H v (.bool i)) : v = .bl i := by
  rcases r with r | ⟨a, w, rfl, e, ha, hr, z⟩
  · cases r; rfl
  · cases w <;> cases e
theorem RpB.str {v : V} {i : Str} (r : RpB K g O H v (.str i)) : v = .str i := by
  rcases r with r | ⟨a, w, rfl, e, ha, hr, z⟩
  · cases r; rfl
  · cases w <;> cases e
theorem RpB.non {v : V} (r : RpB K g O H v .none) : v = .non := by
  rcases r with r | ⟨a, w, rfl, e, ha, hr, z⟩
  · cases r; rfl
  · cases w <;> cases e
theorem RpB.lst {v : V} {ds : List D} (r : RpB K g O H v (.list ds)) : ∃ a xs, v = .ref a ∧ H a = some (.lst xs) ∧ RpA K O H xs ds := by
  rcases r with r | ⟨a, w, rfl, e, ha, hr, z⟩
  · cases r with
    | lst n e r => exact ⟨_, _, rfl, e, r⟩
  · cases w with
    | lst ds' =>
      cases e
      obtain ⟨xs, e, r⟩ := z
      exact ⟨_, _, rfl, e, r⟩
    | _ => cases e
theorem RpB.seq {v : V} {ds : List D} {d : D} (h : d = .list ds ∨ d = .tuple ds) (r : RpB K g O H v d) : ∃ a xs, v = .ref a ∧ (SqL K H a xs ∨ SqT K H a xs) ∧ RpA K O H xs ds := by
  rcases h with rfl | rfl
  · obtain ⟨a, xs, e, q, r⟩ := r.lst
    exact ⟨a, xs, e, .inl (.of q), r⟩
  · have r := r.tup
    obtain ⟨a, rfl⟩ := r.isRef
    obtain ⟨xs, q, r⟩ := r.seqT
    exact ⟨a, xs, rfl, .inr q, r⟩
theorem RpB.dct {v : V} {ds : List (D × D)} (r : RpB K g O H v (.dict ds)) : ∃ a kvs, v = .ref a ∧ L2.Rd H a (.dK kvs) ∧ RpK K O H kvs ds := by
  rcases r with r | ⟨a, w, rfl, e, ha, hr, z⟩
  · cases r with
    | dK n e r => exact ⟨_, _, rfl, e, r⟩
  · cases w with
    | dk ds' =>
      cases e
      obtain ⟨kvs, e, r⟩ := z
      exact ⟨_, _, rfl, .inl e, r⟩
    | _ => cases e
theorem RpB.dcT {v : V} {ds : List (D × D)} (r : RpB K g O H v (.dictT ds)) : ∃ a kvs, v = .ref a ∧ L2.Rd H a (.dT kvs) ∧ RpT K O H kvs ds := by
  rcases r with r | ⟨a, w, rfl, e, ha, hr, z⟩
  · cases r with
    | dT n e r => exact ⟨_, _, rfl, e, r⟩
  · cases w with
    | dt ds' =>
      cases e
      obtain ⟨kvs, e, r⟩ := z
      exact ⟨_, _, rfl, .inl e, r⟩
    | _ => cases e
theorem RpB.dp {v : V} {d : D} (r : RpB K g O H v d) (s : shapedD d = true) : Dp K H v d.py := by
  have s := SeqAt.canLay_of_shaped s
  rcases r with r | ⟨a, w, rfl, e, ha, hr, z⟩
  · exact r.dp s
  · cases w with
    | lst ds' =>
      subst e
      obtain ⟨xs, e, r⟩ := z
      simp only [OwD.d, D.py] at s ⊢
      exact .lst (.of e) (r.dp (by simpa [PyData.canLay0] using s))
    | _ => subst e; simp [OwD.d, D.py, PyData.canLay0] at s
/-- two expressions in a row -/
theorem two {fa fb : FE} {R : V → V → Hp → Prop} {d e : D} {x1 x2 : FRow} (S : FSt ω K g O σ H env x) (h1 : fa env x = some (d, x1)) (h2 : fb env x1 = some (e, x2))
    (k : ∀ v w H', FSt ω K g O σ H' env x2 → Le g H H' → RpB K g O H' v d → RpB K g O H' w e → R v w H') : tB ω K fa σ H fun v H1 => tB ω K fb σ H1 fun w H2 => R v w H2 :=
  ⟨g, O, env, x, d, x1, S, h1, fun v H1 S1 l1 r1 => ⟨g, O, env, x1, e, x2, S1, h2, fun w H2 S2 l2 r2 => k v w H2 S2 (l1.trans l2) (r1.step S1 l2) r2⟩⟩
end
/-! ### operators -/
def OpD (X : Cx) (fop : Value → Value → Sem Value) (gd : D → D → Option D) : Prop :=
  OpR X fop fun v w H Q => ∃ g O σ env x d e r, FSt X.w X.K g O σ H env x ∧ RpB X.K g O H v d ∧ RpB X.K g O H w e ∧ gd d e = some r ∧ ∀ u H', Same H H' → Rp X.K O H' u r → Q u H'
def fBin (gd : D → D → Option D) (fa fb : FE) : FE := fun env x => match fa env x with
  | some (d, x1) => match fb env x1 with
    | some (e, x2) => match gd d e with
      | some r => some (r, x2)
      | none => none
    | none => none
  | none => none
theorem fBin_some {gd : D → D → Option D} {fa fb : FE} {env : FEn} {x : FRow} {p : D × FRow} (h : fBin gd fa fb env x = some p) : ∃ d x1 e r, fa env x = some (d, x1) ∧ fb env x1 = some (e, p.2) ∧ gd d e = some r ∧ r = p.1 := by
  unfold fBin at h
  split at h
  · split at h
    · split at h
      · cases h
        exact ⟨_, _, _, _, by assumption, by assumption, by assumption, rfl⟩
      · cases h
    · cases h
  · cases h
section
variable {X : Cx} {a b : Expr} {fa fb : FE} {pos : Pos}
theorem se_op {op : Operator} {gd : D → D → Option D} (ho : OpD X (binaryOp op) gd) (ha : SB X a fa) (hb : SB X b fb) : SE X (.BinOp a op b pos) (fBin gd fa fb) := by
  refine ⟨PEw (pe_op ho ha.out hb.out) fun σ H Q h => ?_⟩
  obtain ⟨g, O, env, x, d, x', S, e, k⟩ := h
  obtain ⟨da, x1, db, r, e1, e2, e3, rfl⟩ := fBin_some e
  exact two S e1 e2 fun v w H' S' l rv rw => ⟨g, O, σ, env, x', da, db, _, S', rv, rw, e3, fun u H2 sm q => k u H2 (S'.same sm) (l.trans (.of sm)) q⟩
theorem se_cmp {op : CmpOp} {gd : D → D → Option D} (ho : OpD X (compareOp op) gd) (ha : SB X a fa) (hb : SB X b fb) (hm : behindInMarks op b = false) : SE X (.Compare a [op] [b] pos) (fBin gd fa fb) := by
  refine ⟨PEw (pe_cmpR ho ha.out hb.out hm) fun σ H Q h => ?_⟩
  obtain ⟨g, O, env, x, d, x', S, e, k⟩ := h
  obtain ⟨da, x1, db, r, e1, e2, e3, rfl⟩ := fBin_some e
  exact two S e1 e2 fun v w H' S' l rv rw => ⟨g, O, σ, env, x', da, db, _, S', rv, rw, e3, fun u H2 sm q => k u H2 (S'.same sm) (l.trans (.of sm)) q⟩
/-- a test whose value is a bool -/
def fTst (f : FE) : FT := fun env x => match f env x with
  | some (.bool b, x1) => some (b, x1)
  | _ => none
theorem fTst_some {f : FE} {env : FEn} {x : FRow} {p : Bool × FRow} (h : fTst f env x = some p) : f env x = some (.bool p.1, p.2) := by
  unfold fTst at h
  split at h
  · cases h; assumption
  · cases h
theorem st_cmp {op : CmpOp} {gd : D → D → Option D} (ho : OpD X (compareOp op) gd) (ha : SB X a fa) (hb : SB X b fb) (hm : behindInMarks op b = false) : ST X (.Compare a [op] [b] pos) (fTst (fBin gd fa fb)) := by
  refine ⟨PTw (pt_cmpR ho ha.out hb.out hm) fun σ H Q h => ?_⟩
  obtain ⟨g, O, env, x, d, x', S, e, k⟩ := h
  obtain ⟨da, x1, db, r, e1, e2, e3, e4⟩ := fBin_some (fTst_some e)
  refine two S e1 e2 fun v w H' S' l rv rw => ⟨g, O, σ, env, x', da, db, _, S', rv, rw, e3, fun u H2 sm q => ?_⟩
  simp only at e4
  rw [e4] at q
  cases q
  exact ⟨_, rfl, k H2 (S'.same sm) (l.trans (.of sm))⟩
def gOr (g1 g2 : D → D → Option D) : D → D → Option D := fun d e => match g1 d e with
  | some r => some r
  | none => g2 d e
theorem OpD.or {f : Value → Value → Sem Value} {g1 g2 : D → D → Option D} (h1 : OpD X f g1) (h2 : OpD X f g2) : OpD X f (gOr g1 g2) := by
  intro pins s σ H x y v u Q I rx ry h
  obtain ⟨g, O, σ', env, x, d, e, r, S, rv, rw, q, k⟩ := h
  unfold gOr at q
  split at q
  · rename_i r' q'
    cases q
    exact h1 pins s σ H _ _ v u Q I rx ry ⟨g, O, σ', env, x, d, e, r, S, rv, rw, q', k⟩
  · exact h2 pins s σ H _ _ v u Q I rx ry ⟨g, O, σ', env, x, d, e, r, S, rv, rw, q, k⟩
/-- from a rule of the layer -/
theorem OpD.by {f : Value → Value → Sem Value} {r : R2} {gd : D → D → Option D} (h : OpR X f r)
    (q : ∀ g O σ env x d e z H v w Q, FSt X.w X.K g O σ H env x → RpB X.K g O H v d → RpB X.K g O H w e → gd d e = some z → (∀ u H', Same H H' → Rp X.K O H' u z → Q u H') → r v w H Q) : OpD X f gd := by
  intro pins s σ H x y v u Q I rx ry h2
  obtain ⟨g, O, σ', env, x, d, e, r, S, rv, rw, q', k⟩ := h2
  exact h pins s σ H _ _ v u Q I rx ry (q _ _ _ _ _ _ _ _ _ _ _ _ S rv rw q' k)
def gI (p : Int → Int → Bool) (c : Int → Int → D) : D → D → Option D
  | .int i, .int j => if p i j then some (c i j) else none
  | _, _ => none
theorem gI_some {p : Int → Int → Bool} {c : Int → Int → D} {d e z : D} (h : gI p c d e = some z) : ∃ i j, d = .int i ∧ e = .int j ∧ p i j = true ∧ z = c i j := by
  unfold gI at h
  split at h
  · split at h
    · cases h; exact ⟨_, _, rfl, rfl, by assumption, rfl⟩
    · cases h
  · cases h
abbrev yes2 : Int → Int → Bool := fun _ _ => true
theorem od_int0 {f : Value → Value → Sem Value} {c : Int → Int → Int} (h : OpR X f (rI0 fun i j => .int (c i j))) : OpD X f (gI yes2 fun i j => .int (c i j)) := by
  refine OpD.by h fun g O σ env x d e z H v w Q S rv rw q k => ?_
  obtain ⟨i, j, rfl, rfl, _, rfl⟩ := gI_some q
  exact ⟨i, j, rv.int, rw.int, k _ _ (Same.refl _) (.int _)⟩
theorem od_bool0 {f : Value → Value → Sem Value} {c : Int → Int → Bool} (h : OpR X f (rI0 fun i j => .bl (c i j))) : OpD X f (gI yes2 fun i j => .bool (c i j)) := by
  refine OpD.by h fun g O σ env x d e z H v w Q S rv rw q k => ?_
  obtain ⟨i, j, rfl, rfl, _, rfl⟩ := gI_some q
  exact ⟨i, j, rv.int, rw.int, k _ _ (Same.refl _) (.bl _)⟩
theorem od_intC {f : Value → Value → Sem Value} {C : Int → Int → Prop} {p : Int → Int → Bool} {c : Int → Int → Int} (h : OpR X f (rI C fun i j => .int (c i j))) (hp : ∀ i j, p i j = true → C i j) : OpD X f (gI p fun i j => .int (c i j)) := by
  refine OpD.by h fun g O σ env x d e z H v w Q S rv rw q k => ?_
  obtain ⟨i, j, rfl, rfl, hq, rfl⟩ := gI_some q
  exact ⟨i, j, rv.int, rw.int, hp _ _ hq, k _ _ (Same.refl _) (.int _)⟩
abbrev gAddI := gI yes2 fun i j => .int (i + j)
abbrev gSubI := gI yes2 fun i j => .int (i - j)
def pMul (i j : Int) : Bool := decide (-(2 ^ 64) < i ∧ i < 2 ^ 64) || decide (-(2 ^ 64) < j ∧ j < 2 ^ 64)
def pDiv (_ j : Int) : Bool := decide (0 < j ∧ j < 1073741824)
def pMod (_ j : Int) : Bool := decide (0 < j)
def pPow (i j : Int) : Bool := decide (0 ≤ j ∧ j ≤ 1000000 ∧ i.natAbs < 2 ^ 64)
abbrev gMulI := gI pMul fun i j => .int (i * j)
abbrev gDivI := gI pDiv fun i j => .int (i / j)
abbrev gModI := gI pMod fun i j => .int (i % j)
abbrev gPowI := gI pPow fun i j => .int (i ^ j.toNat)
theorem od_add : OpD X (binaryOp .Add) gAddI := od_int0 op_add
theorem od_sub : OpD X (binaryOp .Sub) gSubI := od_int0 op_sub
theorem od_mul : OpD X (binaryOp .Mult) gMulI := od_intC op_mul fun i j h => by
  rcases Bool.or_eq_true_iff.mp h with h | h
  · exact .inl (of_decide_eq_true h)
  · exact .inr (of_decide_eq_true h)
theorem od_div : OpD X (binaryOp .FloorDiv) gDivI := od_intC op_fdiv fun i j h => (show 0 < j ∧ j < 1073741824 from of_decide_eq_true h)
theorem od_mod : OpD X (binaryOp .Mod) gModI := od_intC op_mod fun i j h => of_decide_eq_true h
theorem od_pow : OpD X (binaryOp .Pow) gPowI := od_intC op_pow fun i j h => (show 0 ≤ j ∧ j ≤ 1000000 ∧ i.natAbs < 2 ^ 64 from of_decide_eq_true h)
theorem od_lt : OpD X (compareOp .Lt) (gI yes2 fun i j => .bool (decide (i < j))) := od_bool0 op_lt
theorem od_le : OpD X (compareOp .LtE) (gI yes2 fun i j => .bool (decide (i ≤ j))) := od_bool0 op_le
theorem od_gt : OpD X (compareOp .Gt) (gI yes2 fun i j => .bool (decide (j < i))) := od_bool0 op_gt
theorem od_ge : OpD X (compareOp .GtE) (gI yes2 fun i j => .bool (decide (j ≤ i))) := od_bool0 op_ge
/-- tuple + tuple, list + list -/
def gCatT : D → D → Option D
  | .tuple xs, .tuple ys => if xs.length + ys.length ≤ maxLen then some (.tuple (xs ++ ys)) else none
  | _, _ => none
def gCatL : D → D → Option D
  | .list xs, .list ys => if xs.length + ys.length ≤ maxLen then some (.list (xs ++ ys)) else none
  | _, _ => none
theorem od_catT : OpD X (binaryOp .Add) gCatT := by
  refine OpD.by op_catA fun g O σ env x d e z H v w Q S rv rw q k => ?_
  unfold gCatT at q
  split at q
  · rename_i ds es
    split at q
    · rename_i hl
      cases q
      have rv := rv.tup
      have rw := rw.tup
      obtain ⟨p1, rfl⟩ := rv.isRef
      obtain ⟨p2, rfl⟩ := rw.isRef
      obtain ⟨xs, q1, r1⟩ := rv.seqT
      obtain ⟨ys, q2, r2⟩ := rw.seqT
      refine ⟨p1, p2, xs, ys, rfl, rfl, q1, q2, by rw [r1.length, r2.length]; exact maxLen_ok hl, fun e => ?_, fun _ e => ?_, fun _ _ p hp => ?_⟩
      · subst e
        cases r1
        exact k _ _ (Same.refl _) rw
      · subst e
        cases r2
        rw [List.append_nil] at k
        exact k _ _ (Same.refl _) rv
      · have sm := same_upd (o := .tup (xs ++ ys)) hp
        exact k _ _ sm (.tup (S.notO hp) upd_same ((r1.app r2).move (.of sm) .refl))
    · cases q
  · cases q
theorem od_catL : OpD X (binaryOp .Add) gCatL := by
  refine OpD.by op_cat fun g O σ env x d e z H v w Q S rv rw q k => ?_
  unfold gCatL at q
  split at q
  · rename_i ds es
    split at q
    · rename_i hl
      cases q
      obtain ⟨p1, xs, rfl, q1, r1⟩ := rv.lst
      obtain ⟨p2, ys, rfl, q2, r2⟩ := rw.lst
      refine ⟨p1, p2, xs, ys, rfl, rfl, q1, q2, by rw [r1.length, r2.length]; exact maxLen_ok hl, fun p hp => ?_⟩
      have sm := same_upd (o := .lst (xs ++ ys)) hp
      exact k _ _ sm (.lst (S.notO hp) upd_same ((r1.app r2).move (.of sm) .refl))
    · cases q
  · cases q
theorem RpA.rep {K : PySem.W.Frag} {O : Addr → Prop} {H : Hp} {xs : List V} {ds : List D} (r : RpA K O H xs ds) : ∀ k : Nat, RpA K O H (List.replicate k xs).flatten (List.replicate k ds).flatten
  | 0 => .nil
  | k + 1 => by
    rw [List.replicate_succ, List.replicate_succ, List.flatten_cons, List.flatten_cons]
    exact r.app (RpA.rep r k)
/-- list * int -/
def gRepL : D → D → Option D
  | .list xs, .int k => if 0 ≤ k ∧ k ≤ 1000 ∧ xs.length ≤ 1000 then some (.list (List.replicate k.toNat xs).flatten) else none
  | _, _ => none
theorem od_repL : OpD X (binaryOp .Mult) gRepL := by
  refine OpD.by op_rep fun g O σ env x d e z H v w Q S rv rw q k => ?_
  unfold gRepL at q
  split at q
  · rename_i ds j
    split at q
    · rename_i hl
      cases q
      obtain ⟨p1, xs, rfl, q1, r1⟩ := rv.lst
      have lx : xs.length * j.toNat ≤ 1000000 := by
        rw [r1.length]
        exact Nat.le_trans (Nat.mul_le_mul hl.2.2 (show j.toNat ≤ 1000 by omega)) (by decide)
      refine ⟨p1, j, xs, rfl, rw.int, q1, by omega, by omega, maxLen_ok lx, fun p hp => ?_⟩
      have sm := same_upd (o := .lst (List.replicate j.toNat xs).flatten) hp
      exact k _ _ sm (.lst (S.notO hp) upd_same ((r1.rep _).move (.of sm) .refl))
    · cases q
  · cases q
/-- ==, != of data -/
def gEq : D → D → Option D := fun d e => if shapedD d && shapedD e then some (.bool (eqD d e)) else none
def gNe : D → D → Option D := fun d e => if shapedD d && shapedD e then some (.bool (!eqD d e)) else none
theorem od_eq (hu : X.A.units + 64 < cLine) : OpD X (compareOp .Eq) gEq := by
  refine OpD.by (op_eqD hu) fun g O σ env x d e z H v w Q S rv rw q k => ?_
  unfold gEq at q
  split at q
  · rename_i h
    cases q
    obtain ⟨h1, h2⟩ := Bool.and_eq_true_iff.mp h
    exact ⟨d.py, e.py, rv.dp h1, rw.dp h2, h1, h2, k _ _ (Same.refl _) (.bl _)⟩
  · cases q
theorem od_ne (hu : X.A.units + 64 < cLine) : OpD X (compareOp .NotEq) gNe := by
  refine OpD.by (op_neD hu) fun g O σ env x d e z H v w Q S rv rw q k => ?_
  unfold gNe at q
  split at q
  · rename_i h
    cases q
    obtain ⟨h1, h2⟩ := Bool.and_eq_true_iff.mp h
    exact ⟨d.py, e.py, rv.dp h1, rw.dp h2, h1, h2, k _ _ (Same.refl _) (.bl _)⟩
  · cases q
/-- is None -/
def isNoneD : D → Bool
  | .none => true
  | _ => false
def gIsN : D → D → Option D := fun d e => match e with
  | .none => some (.bool (isNoneD d))
  | _ => none
def gNotN : D → D → Option D := fun d e => match e with
  | .none => some (.bool (!isNoneD d))
  | _ => none
theorem isNone_ok {K : PySem.W.Frag} {g : FG} {O : Addr → Prop} {H : Hp} {v : V} {d : D} (r : RpB K g O H v d) : decide (v = .non) = isNoneD d := by
  rcases r with r | ⟨a, w, rfl, rfl, ha, hr, z⟩
  · cases r <;> first | rfl | simp [isNoneD]
  · cases w <;> simp [isNoneD, OwD.d]
theorem od_isN : OpD X (compareOp .Is) gIsN := by
  refine OpD.by op_isN fun g O σ env x d e z H v w Q S rv rw q k => ?_
  unfold gIsN at q
  split at q
  · cases q
    refine ⟨rw.non, ?_⟩
    rw [isNone_ok rv]
    exact k _ _ (Same.refl _) (.bl _)
  · cases q
theorem od_notN : OpD X (compareOp .IsNot) gNotN := by
  refine OpD.by op_notN fun g O σ env x d e z H v w Q S rv rw q k => ?_
  unfold gNotN at q
  split at q
  · cases q
    refine ⟨rw.non, ?_⟩
    rw [isNone_ok rv]
    exact k _ _ (Same.refl _) (.bl _)
  · cases q
theorem any_py (d : D) : ∀ ds : List D, ((pyAll ds).any fun z => PyData.eqv z d.py) = ds.any fun z => eqD z d
  | [] => by simp only [pyAll, List.any_nil]
  | x :: xs => by simp only [pyAll, List.any_cons, any_py d xs, eqD]
/-- x in list -/
def gIn : D → D → Option D := fun d e => match e with
  | .list ds => if shapedD d && shapedD (.list ds) then some (.bool (ds.any fun z => eqD z d)) else none
  | _ => none
def gNotIn : D → D → Option D := fun d e => match e with
  | .list ds => if shapedD d && shapedD (.list ds) then some (.bool (!ds.any fun z => eqD z d)) else none
  | _ => none
theorem od_in (hu : X.A.units + 65 < cLine) : OpD X (compareOp .In) gIn := by
  refine OpD.by (op_inD hu) fun g O σ env x d e z H v w Q S rv rw q k => ?_
  unfold gIn at q
  split at q
  · rename_i ds
    split at q
    · rename_i h
      cases q
      obtain ⟨h1, h2⟩ := Bool.and_eq_true_iff.mp h
      have h3 := rw.dp h2
      simp only [shapedD, D.py] at h1 h2 h3
      refine ⟨d.py, pyAll ds, rv.dp h1, h3, h1, h2, ?_⟩
      rw [any_py]
      exact k _ _ (Same.refl _) (.bl _)
    · cases q
  · cases q
theorem od_notIn (hu : X.A.units + 65 < cLine) : OpD X (compareOp .NotIn) gNotIn := by
  refine OpD.by (op_notInD hu) fun g O σ env x d e z H v w Q S rv rw q k => ?_
  unfold gNotIn at q
  split at q
  · rename_i ds
    split at q
    · rename_i h
      cases q
      obtain ⟨h1, h2⟩ := Bool.and_eq_true_iff.mp h
      have h3 := rw.dp h2
      simp only [shapedD, D.py] at h1 h2 h3
      refine ⟨d.py, pyAll ds, rv.dp h1, h3, h1, h2, ?_⟩
      rw [any_py]
      exact k _ _ (Same.refl _) (.bl _)
    · cases q
  · cases q
end
end RT
namespace RT
open PySem PySem.Spec PyProof.Rows L2
section
variable {X : Cx} {a b c e : Expr} {es : List Expr} {fa fb fc f : FE} {pos : Pos}
/-! ### chains, and, or, not, if -/
def fChain (g1 g2 : D → D → Option D) (fa fb fc : FE) : FE := fun env x => match fa env x with
  | some (d, x1) => match fb env x1 with
    | some (e, x2) => match g1 d e with
      | some (.bool true) => match fc env x2 with
        | some (h, x3) => match g2 e h with
          | some (.bool r) => some (.bool r, x3)
          | _ => none
        | none => none
      | some (.bool false) => some (.bool false, x2)
      | _ => none
    | none => none
  | none => none
theorem se_chain {op op' : CmpOp} {g1 g2 : D → D → Option D} (ho : OpD X (compareOp op) g1) (ho' : OpD X (compareOp op') g2) (ha : SB X a fa) (hb : SB X b fb) (hc : SB X c fc)
    (hm : lastMarks [op, op'] [b, c] = false := by with_unfolding_all rfl) : SE X (.Compare a [op, op'] [b, c] pos) (fChain g1 g2 fa fb fc) := by
  refine ⟨PEw (pe_chain ho ho' ha.out hb.out hc.out hm) fun σ H Q h => ?_⟩
  obtain ⟨g, O, env, x, d, x', S, e, k⟩ := h
  unfold fChain at e
  split at e
  · rename_i da x1 e1
    split at e
    · rename_i db x2 e2
      split at e
      · rename_i e3
        split at e
        · rename_i dc x3 e4
          split at e
          · rename_i r e5
            cases e
            refine two S e1 e2 fun v w H' S' l rv rw => ⟨g, O, σ, env, x2, da, db, _, S', rv, rw, e3, fun u H2 sm q => ?_⟩
            cases q
            refine ⟨true, rfl, ?_⟩
            refine iteT ?_
            refine ⟨g, O, env, x2, dc, x', S'.same sm, e4, fun y H3 S3 l3 r3 => ⟨g, O, σ, env, x', db, dc, _, S3, RpB.step (S'.same sm) l3 (RpB.step S' (.of sm) rw), r3, e5, fun u H4 sm4 q => k u H4 (S3.same sm4) (((l.trans (.of sm)).trans l3).trans (.of sm4)) q⟩⟩
          · cases e
        · cases e
      · rename_i e3
        cases e
        refine two S e1 e2 fun v w H' S' l rv rw => ⟨g, O, σ, env, x', da, db, _, S', rv, rw, e3, fun u H2 sm q => ?_⟩
        cases q
        refine ⟨false, rfl, ?_⟩
        refine iteF ?_
        exact k _ _ (S'.same sm) (l.trans (.of sm)) (.bl false)
      · cases e
    · cases e
  · cases e
def fAnd (fa fb : FE) : FE := fun env x => match fa env x with
  | some (.bool true, x1) => fb env x1
  | some (.bool false, x1) => some (.bool false, x1)
  | _ => none
def fOr (fa fb : FE) : FE := fun env x => match fa env x with
  | some (.bool true, x1) => some (.bool true, x1)
  | some (.bool false, x1) => fb env x1
  | _ => none
theorem se_one {op : BoolOp} (h : SE X a fa) : SE X (.BoolOp op [a] pos) fa := ⟨pe_one h.out⟩
theorem se_and {rest : List Expr} (ha : SE X a fa) (hb : SE X (.BoolOp .And (b :: rest) pos) fb) : SE X (.BoolOp .And (a :: b :: rest) pos) (fAnd fa fb) := by
  refine ⟨PEw (pe_and ha.out hb.out) fun σ H Q h => ?_⟩
  obtain ⟨g, O, env, x, d, x', S, e, k⟩ := h
  unfold fAnd at e
  split at e
  · rename_i x1 e1
    refine ⟨g, O, env, x, _, x1, S, e1, fun v H1 S1 l1 r1 => ?_⟩
    cases r1
    refine ⟨true, rfl, ?_⟩
    refine iteT ?_
    exact ⟨g, O, env, x1, d, x', S1, e, fun v H2 S2 l2 r2 => k v H2 S2 (l1.trans l2) r2⟩
  · rename_i x1 e1
    cases e
    refine ⟨g, O, env, x, _, x', S, e1, fun v H1 S1 l1 r1 => ?_⟩
    cases r1
    refine ⟨false, rfl, ?_⟩
    refine iteF ?_
    exact k _ _ S1 l1 (.bl false)
  · cases e
theorem se_or {rest : List Expr} (ha : SE X a fa) (hb : SE X (.BoolOp .Or (b :: rest) pos) fb) : SE X (.BoolOp .Or (a :: b :: rest) pos) (fOr fa fb) := by
  refine ⟨PEw (pe_or ha.out hb.out) fun σ H Q h => ?_⟩
  obtain ⟨g, O, env, x, d, x', S, e, k⟩ := h
  unfold fOr at e
  split at e
  · rename_i x1 e1
    cases e
    refine ⟨g, O, env, x, _, x', S, e1, fun v H1 S1 l1 r1 => ?_⟩
    cases r1
    refine ⟨true, rfl, ?_⟩
    refine iteT ?_
    exact k _ _ S1 l1 (.bl true)
  · rename_i x1 e1
    refine ⟨g, O, env, x, _, x1, S, e1, fun v H1 S1 l1 r1 => ?_⟩
    cases r1
    refine ⟨false, rfl, ?_⟩
    refine iteF ?_
    exact ⟨g, O, env, x1, d, x', S1, e, fun v H2 S2 l2 r2 => k v H2 S2 (l1.trans l2) r2⟩
  · cases e
def fNot (fa : FE) : FE := fun env x => match fa env x with
  | some (.bool b, x1) => some (.bool (!b), x1)
  | _ => none
theorem se_not (ha : SE X a fa) : SE X (.UnaryOp .Not a pos) (fNot fa) := by
  refine ⟨PEw (pe_not ha.out) fun σ H Q h => ?_⟩
  obtain ⟨g, O, env, x, d, x', S, e, k⟩ := h
  unfold fNot at e
  split at e
  · rename_i bb x1 e1
    cases e
    refine ⟨g, O, env, x, _, x', S, e1, fun v H1 S1 l1 r1 => ?_⟩
    cases r1
    exact ⟨bb, rfl, k _ _ S1 l1 (.bl _)⟩
  · cases e
def fNeg (fa : FE) : FE := fun env x => match fa env x with
  | some (.int i, x1) => some (.int (-i), x1)
  | _ => none
/-! ### tests -/
structure SW (X : Cx) (e : Expr) (f : FT) : Prop where
  out : PW X e (tT X.w X.K f)
theorem PWw {t t' : TT} (h : PW X e t) (q : ∀ σ H Q, t' σ H Q → t σ H Q) : PW X e t' := ⟨fun wh pins s σ H Q I z => h.run wh pins s σ H Q I (q _ _ _ z)⟩
theorem st_w {f : FT} (h : SW X e f) : ST X e f := ⟨h.out.pt⟩
variable {ta tb tc : FT}
def tAndF (fa fb : FT) : FT := fun env x => match fa env x with
  | some (true, x1) => fb env x1
  | some (false, x1) => some (false, x1)
  | none => none
def tOrF (fa fb : FT) : FT := fun env x => match fa env x with
  | some (true, x1) => some (true, x1)
  | some (false, x1) => fb env x1
  | none => none
theorem sw_and1 (h : ST X a ta) : SW X (.BoolOp .And [a] pos) ta := ⟨pw_and1 h.out⟩
theorem sw_or1 (h : ST X a ta) : SW X (.BoolOp .Or [a] pos) ta := ⟨pw_or1 h.out⟩
theorem sw_and {rest : List Expr} (ha : ST X a ta) (hb : SW X (.BoolOp .And (b :: rest) pos) tb) : SW X (.BoolOp .And (a :: b :: rest) pos) (tAndF ta tb) := by
  refine ⟨PWw (pw_and ha.out hb.out) fun σ H Q h => ?_⟩
  obtain ⟨g, O, env, x, d, x', S, e, k⟩ := h
  unfold tAndF at e
  split at e
  · rename_i x1 e1
    refine ⟨g, O, env, x, _, x1, S, e1, fun H1 S1 l1 => ?_⟩
    refine iteT ?_
    exact ⟨g, O, env, x1, d, x', S1, e, fun H2 S2 l2 => k H2 S2 (l1.trans l2)⟩
  · rename_i x1 e1
    cases e
    refine ⟨g, O, env, x, _, x', S, e1, fun H1 S1 l1 => ?_⟩
    refine iteF ?_
    exact k _ S1 l1
  · cases e
theorem sw_or {rest : List Expr} (ha : ST X a ta) (hb : SW X (.BoolOp .Or (b :: rest) pos) tb) : SW X (.BoolOp .Or (a :: b :: rest) pos) (tOrF ta tb) := by
  refine ⟨PWw (pw_or ha.out hb.out) fun σ H Q h => ?_⟩
  obtain ⟨g, O, env, x, d, x', S, e, k⟩ := h
  unfold tOrF at e
  split at e
  · rename_i x1 e1
    cases e
    refine ⟨g, O, env, x, _, x', S, e1, fun H1 S1 l1 => ?_⟩
    refine iteT ?_
    exact k _ S1 l1
  · rename_i x1 e1
    refine ⟨g, O, env, x, _, x1, S, e1, fun H1 S1 l1 => ?_⟩
    refine iteF ?_
    exact ⟨g, O, env, x1, d, x', S1, e, fun H2 S2 l2 => k H2 S2 (l1.trans l2)⟩
  · cases e
def tNotF (fa : FT) : FT := fun env x => match fa env x with
  | some (b, x1) => some (!b, x1)
  | none => none
theorem st_not (ha : ST X a ta) : ST X (.UnaryOp .Not a pos) (tNotF ta) := by
  refine ⟨PTw (pt_not ha.out) fun σ H Q h => ?_⟩
  obtain ⟨g, O, env, x, d, x', S, e, k⟩ := h
  unfold tNotF at e
  split at e
  · rename_i bb x1 e1
    cases e
    exact ⟨g, O, env, x, _, x', S, e1, fun H1 S1 l1 => k H1 S1 l1⟩
  · cases e
/-- truth of a value -/
def truD : D → Option Bool
  | .none => some false
  | .bool b => some b
  | .int i => some (i != 0)
  | .list ds => some (!ds.isEmpty)
  | .tuple ds => some (!ds.isEmpty)
  | _ => none
def fTru (f : FE) : FT := fun env x => match f env x with
  | some (d, x1) => match truD d with
    | some b => some (b, x1)
    | none => none
  | none => none
theorem RpA.emp {K : PySem.W.Frag} {O : Addr → Prop} {H : Hp} {xs : List V} {ds : List D} (r : RpA K O H xs ds) : xs.isEmpty = ds.isEmpty := by cases r <;> rfl
theorem st_tru (ha : SB X a fa) (he : ∀ whole, isTrue a X.env whole = (do let v ← whole; standAt a.pos; holding [v] (truthy v)) := by intro _; rfl) : ST X a (fTru fa) := by
  refine ⟨PTw (pt_truth ha.out he) fun σ H Q h => ?_⟩
  obtain ⟨g, O, env, x, d, x', S, e, k⟩ := h
  unfold fTru at e
  split at e
  · rename_i dd x1 e1
    split at e
    · rename_i bb e2
      cases e
      refine ⟨g, O, env, x, _, x', S, e1, fun v H1 S1 l1 r1 => ⟨d, ?_, k H1 S1 l1⟩⟩
      unfold truD at e2
      split at e2
      · cases e2; rw [r1.non]; exact rfl
      · cases e2; rw [r1.bl]; exact rfl
      · cases e2; rw [r1.int]; exact rfl
      · cases e2
        obtain ⟨p, xs, rfl, q, r⟩ := r1.lst
        exact .inl ⟨xs, .of q, by rw [r.emp]⟩
      · cases e2
        have r := r1.tup
        obtain ⟨p, rfl⟩ := r.isRef
        obtain ⟨xs, q, r⟩ := r.seqT
        exact .inr (.inl ⟨xs, q, by rw [r.emp]⟩)
      · cases e2
    · cases e
  · cases e
def fIf (t : FT) (fa fb : FE) : FE := fun env x => match t env x with
  | some (true, x1) => fa env x1
  | some (false, x1) => fb env x1
  | none => none
theorem se_if {t : FT} (hc : ST X c t) (ha : SE X a fa) (hb : SE X b fb) : SE X (.IfExp c a b pos) (fIf t fa fb) := by
  refine ⟨PEw (pe_ifExp hc.out ha.out hb.out) fun σ H Q h => ?_⟩
  obtain ⟨g, O, env, x, d, x', S, e, k⟩ := h
  unfold fIf at e
  split at e
  · rename_i x1 e1
    refine ⟨g, O, env, x, _, x1, S, e1, fun H1 S1 l1 => ?_⟩
    refine iteT ?_
    exact ⟨g, O, env, x1, d, x', S1, e, fun v H2 S2 l2 r2 => k v H2 S2 (l1.trans l2) r2⟩
  · rename_i x1 e1
    refine ⟨g, O, env, x, _, x1, S, e1, fun H1 S1 l1 => ?_⟩
    refine iteF ?_
    exact ⟨g, O, env, x1, d, x', S1, e, fun v H2 S2 l2 r2 => k v H2 S2 (l1.trans l2) r2⟩
  · cases e
/-! ### subscripts, slices -/
def gIx : D → D → Option D
  | .list ds, .int i => atI ds i
  | .tuple ds, .int i => atI ds i
  | _, _ => none
theorem atI_rp {K : PySem.W.Frag} {O : Addr → Prop} {H : Hp} {xs : List V} {ds : List D} {i : Int} {d : D} (r : RpA K O H xs ds) (h : atI ds i = some d) : ∃ v, atI xs i = some v ∧ Rp K O H v d := by
  unfold atI at h ⊢
  rw [r.length]
  cases q : ixN ds.length i with
  | none => rw [q] at h; cases h
  | some j =>
    rw [q] at h
    exact r.get h
theorem se_ix (ha : SB X a fa) (hb : SB X b fb) (hs : PlainIx b := by exact fun _ _ => rfl) : SE X (.Subscript a b pos) (fBin gIx fa fb) := by
  refine ⟨PEw (pe_ix (ix_list.or ix_tup) ha.out hb.out hs) fun σ H Q h => ?_⟩
  obtain ⟨g, O, env, x, d, x', S, e, k⟩ := h
  obtain ⟨da, x1, db, r, e1, e2, e3, rfl⟩ := fBin_some e
  refine two S e1 e2 fun v w H' S' l rv rw => ?_
  unfold gIx at e3
  split at e3
  · obtain ⟨p, xs, rfl, q, r⟩ := rv.lst
    obtain ⟨u, e4, r4⟩ := atI_rp r e3
    exact .inl ⟨p, xs, _, u, rfl, rw.int, .of q, e4, k _ _ S' l r4⟩
  · have r := rv.tup
    obtain ⟨p, rfl⟩ := r.isRef
    obtain ⟨xs, q, r⟩ := r.seqT
    obtain ⟨u, e4, r4⟩ := atI_rp r e3
    exact .inr ⟨p, xs, _, u, rfl, rw.int, q, e4, k _ _ S' l r4⟩
  · cases e3
abbrev FO := FEn → FRow → Option (Option Int × FRow)
def tO (ω : World) (K : PySem.W.Frag) (f : FO) : TO := fun σ H Q => ∃ g O env x d x', FSt ω K g O σ H env x ∧ f env x = some (d, x') ∧ ∀ H', FSt ω K g O σ H' env x' → Le g H H' → Q d H'
structure SO (X : Cx) (o : Option Expr) (f : FO) : Prop where
  out : PO X o (tO X.w X.K f)
theorem POw {o : Option Expr} {t t' : TO} (h : PO X o t) (q : ∀ σ H Q, t' σ H Q → t σ H Q) : PO X o t' := ⟨fun pins s σ H Q I z => h.run pins s σ H Q I (q _ _ _ z)⟩
def oNone : FO := fun _ x => some (none, x)
def oSome (f : FE) : FO := fun env x => match f env x with
  | some (.int i, x1) => some (some i, x1)
  | _ => none
theorem so_none : SO X none oNone := by
  refine ⟨POw po_none fun σ H Q h => ?_⟩
  obtain ⟨g, O, env, x, d, x', S, e, k⟩ := h
  cases e
  exact k _ S (Le.refl _ _)
theorem so_some (ha : SE X a fa) : SO X (some a) (oSome fa) := by
  refine ⟨POw (po_some ha.out) fun σ H Q h => ?_⟩
  obtain ⟨g, O, env, x, d, x', S, e, k⟩ := h
  unfold oSome at e
  split at e
  · rename_i i x1 e1
    cases e
    refine ⟨g, O, env, x, _, x', S, e1, fun v H1 S1 l1 r1 => ?_⟩
    cases r1
    exact ⟨i, rfl, k _ S1 l1⟩
  · cases e
def cutL {α : Type} (xs : List α) (lo hi : Option Int) : List α := (xs.drop (HT.sIx xs.length 0 lo)).take (HT.sIx xs.length xs.length hi - HT.sIx xs.length 0 lo)
def gSl : D → Option Int → Option Int → Option D
  | .list ds, lo, hi => some (.list (cutL ds lo hi))
  | .tuple ds, lo, hi => some (.tuple (cutL ds lo hi))
  | _, _, _ => none
theorem cut_rp {K : PySem.W.Frag} {O : Addr → Prop} {H : Hp} {xs : List V} {ds : List D} {lo hi : Option Int} (r : RpA K O H xs ds) : RpA K O H (cutV xs lo hi) (cutL ds lo hi) := by
  unfold cutV cutL
  rw [r.length]
  exact (r.drop _).take _
def fSl (f : FE) (o p : FO) : FE := fun env x => match f env x with
  | some (d, x1) => match o env x1 with
    | some (lo, x2) => match p env x2 with
      | some (hi, x3) => match gSl d lo hi with
        | some r => some (r, x3)
        | none => none
      | none => none
    | none => none
  | none => none
theorem cut_all {α : Type} {xs : List α} {lo hi : Option Int} (h : HT.sIx xs.length 0 lo = 0 ∧ HT.sIx xs.length xs.length hi = xs.length) : cutL xs lo hi = xs := by
  unfold cutL
  rw [h.1, h.2]
  simp
theorem se_sl {lo hi : Option Expr} {fl fh : FO} {p2 : Pos} (ha : SB X a fa) (hl : SO X lo fl) (hh : SO X hi fh) : SE X (.Subscript a (.Slice lo hi none p2) pos) (fSl fa fl fh) := by
  refine ⟨PEw (pe_slice (sl_list.or sl_tupA) ha.out hl.out hh.out) fun σ H Q h => ?_⟩
  obtain ⟨g, O, env, x, d, x', S, e, k⟩ := h
  unfold fSl at e
  split at e
  · rename_i da x1 e1
    split at e
    · rename_i lo x2 e2
      split at e
      · rename_i hi x3 e3
        split at e
        · rename_i r e4
          cases e
          refine ⟨g, O, env, x, da, x1, S, e1, fun v H1 S1 l1 r1 => ⟨g, O, env, x1, lo, x2, S1, e2, fun H2 S2 l2 => ⟨g, O, env, x2, hi, x', S2, e3, fun H3 S3 l3 => ?_⟩⟩⟩
          have rv := RpB.step S2 l3 (RpB.step S1 l2 r1)
          unfold gSl at e4
          split at e4
          · rename_i ds
            cases e4
            obtain ⟨p, xs, rfl, q, r⟩ := rv.lst
            refine .inl ⟨p, xs, rfl, .of q, fun p hp => ?_⟩
            have sm := same_upd (o := .lst (cutV xs lo hi)) hp
            exact k _ _ (S3.same sm) (((l1.trans l2).trans l3).trans (.of sm)) (.lst (S3.notO hp) upd_same ((cut_rp r).move (.of sm) .refl))
          · rename_i ds
            cases e4
            have r := rv.tup
            obtain ⟨p, rfl⟩ := r.isRef
            obtain ⟨xs, q, r2⟩ := r.seqT
            refine .inr ⟨p, xs, rfl, q, fun hh => ?_, fun _ p hp => ?_⟩
            · rw [r2.length] at hh
              rw [cut_all hh] at k
              exact k _ _ S3 ((l1.trans l2).trans l3) r
            · have sm := same_upd (o := .tup (cutV xs lo hi)) hp
              exact k _ _ (S3.same sm) (((l1.trans l2).trans l3).trans (.of sm)) (.tup (S3.notO hp) upd_same ((cut_rp r2).move (.of sm) .refl))
          · cases e4
        · cases e
      · cases e
    · cases e
  · cases e
end
end RT
namespace RT
open PySem PySem.Spec PyProof.Rows L2
/-! ### stores -/
section
variable {ω : World} {K : PySem.W.Frag} {g : FG} {O O' : Addr → Prop} {σ : L2.St} {H H' : Hp} {env : FEn} {x x' : FRow}
theorem set_at {α : Type} {l : List α} {i j : Nat} {a b : α} (h : (l.set i a)[j]? = some b) : (i = j ∧ b = a) ∨ (i ≠ j ∧ l[j]? = some b) := by
  by_cases e : i = j
  · subst e
    by_cases hl : i < l.length
    · rw [List.getElem?_set_self hl] at h
      exact .inl ⟨rfl, (Option.some.inj h).symm⟩
    · rw [List.getElem?_eq_none (by simpa using hl)] at h
      cases h
  · rw [List.getElem?_set_ne e] at h
    exact .inr ⟨e, h⟩
theorem OwAt.mut {a : Addr} {d : OwD} (h : OwAt K O H a d) : MutC (H a) := by
  cases d <;> (obtain ⟨xs, e, _⟩ := h; rw [e]; exact True.intro)
theorem OwAt.some {a : Addr} {d : OwD} (h : OwAt K O H a d) : ∃ o, H a = some o := by
  have z := h.mut
  cases q : H a with
  | none => rw [q] at z; exact z.elim
  | some o => exact ⟨o, rfl⟩
theorem OwAt.live {a p : Addr} {d : OwD} (h : OwAt K O H a d) (n : Gone H p) : a ≠ p := fun z => by
  obtain ⟨u, q⟩ := h.some
  have m := h.mut
  rw [q] at m
  rw [z] at q
  exact n.no q (mut_nt m)
theorem NdAt.updO {a p : Addr} {d : OwD} {o : HO} (h : NdAt K g O H a d) (na : a ≠ p) (ni : ¬ Inn H a p) (kp : Keep O H (upd H p o)) : NdAt K g O (upd H p o) a d :=
  h.mv (upd_ne na) (fun b i => upd_ne fun z => ni (z ▸ i)) (fun _ _ r => r.move kp .refl) (fun _ _ r => r.move kp .refl) fun _ _ x y z => ⟨x, y, z⟩
theorem FSt.ndAt (S : FSt ω K g O σ H env x) {i : Nat} {a : Addr} {d : OwD} (h1 : env[i]? = some (.nd d)) (h2 : σ[i]? = some (some (.ref a))) : O a ∧ ¬ g.O0 a ∧ g.R ≠ some a ∧ NdAt K g O H a d := by
  have q := S.sl i _ _ h2 h1
  cases q with
  | nd p q r s => exact ⟨p, q, r, s⟩
/-- a new thing is no part of an owned thing of lists -/
theorem FSt.ndNew (S : FSt ω K g O σ H env x) {p : Addr} (hp : Gone H p) {j : Nat} {d : OwD} {b : Addr} (h1 : env[j]? = some (.nd d)) (h2 : σ[j]? = some (some (.ref b))) : p ≠ b ∧ ¬ Inn H b p := by
  obtain ⟨_, _, _, n⟩ := S.ndAt h1 h2
  refine ⟨fun z => ?_, fun z => ?_⟩
  · obtain ⟨o, q, t⟩ := n.tk
    rw [z] at hp; exact hp.no q t
  · obtain ⟨_, _, _, ys, q⟩ := n.inn z
    exact hp.no q rfl
/-- a slot gets a value -/
theorem FSt.setv (S : FSt ω K g O σ H env x) {v : V} {e : FSl} (i : Nat) (r : SlOk K g O H (some v) e) (n : ∀ d, e = .ow d → ∃ p, v = .ref p ∧ ∀ (j : Nat) d' b, env[j]? = some (.ow d') → σ[j]? = some (some (.ref b)) → b ≠ p)
    (m : (∀ d, e ≠ .nd d) := by intro _ z; cases z) (m2 : ∀ d, e = .ow d → ∀ p, v = .ref p → ∀ (j : Nat) d' b, env[j]? = some (.nd d') → σ[j]? = some (some (.ref b)) → p ≠ b ∧ ¬ Inn H b p := by intro _ z; cases z) : FSt ω K g O (σ.set i (some v)) H (env.set i e) x where
  sub := S.sub
  new := S.new
  dom := S.dom
  le := S.le
  row := S.row
  len := by rw [List.length_set, List.length_set]; exact S.len
  sl := fun j s e' h1 h2 => by
    rcases set_at h1 with ⟨e1, e2⟩ | ⟨e1, e2⟩
    · rcases set_at h2 with ⟨e3, e4⟩ | ⟨e3, e4⟩
      · subst e2; subst e4; exact r
      · exact absurd e1 e3
    · rcases set_at h2 with ⟨e3, e4⟩ | ⟨e3, e4⟩
      · exact absurd e3 e1
      · exact S.sl j s e' e2 e4
  dis := fun j k d d' a b ne h1 h2 h3 h4 => by
    rcases set_at h1 with ⟨e1, e2⟩ | ⟨e1, e2⟩
    · rcases set_at h3 with ⟨e3, e4⟩ | ⟨e3, e4⟩
      · rcases set_at h2 with ⟨e5, e6⟩ | ⟨e5, e6⟩
        · exact absurd (e1.symm.trans e5) ne
        · rcases set_at h4 with ⟨e7, e8⟩ | ⟨e7, e8⟩
          · exact absurd e7 e5
          · obtain ⟨p, e9, q⟩ := n d e2.symm
            have e4' : V.ref a = v := Option.some.inj e4
            rw [e9] at e4'
            cases e4'
            exact fun z => q k d' b e6 e8 z.symm
      · exact absurd e1 e3
    · rcases set_at h3 with ⟨e3, e4⟩ | ⟨e3, e4⟩
      · exact absurd e3 e1
      · rcases set_at h2 with ⟨e5, e6⟩ | ⟨e5, e6⟩
        · rcases set_at h4 with ⟨e7, e8⟩ | ⟨e7, e8⟩
          · obtain ⟨p, e9, q⟩ := n d' e6.symm
            have e8' : V.ref b = v := Option.some.inj e8
            rw [e9] at e8'
            cases e8'
            exact q j d a e2 e4
          · exact absurd e5 e7
        · rcases set_at h4 with ⟨e7, e8⟩ | ⟨e7, e8⟩
          · exact absurd e7 e5
          · exact S.dis j k d d' a b ne e2 e6 e4 e8
  din := fun j k d d' a b h1 h2 h3 h4 => by
    rcases set_at h1 with ⟨e1, e2⟩ | ⟨e1, e2⟩
    · exact absurd e2.symm (m d)
    · rcases set_at h3 with ⟨e3, e4⟩ | ⟨e3, e4⟩
      · exact absurd e3 e1
      · rcases set_at h2 with ⟨e5, e6⟩ | ⟨e5, e6⟩
        · rcases set_at h4 with ⟨e7, e8⟩ | ⟨e7, e8⟩
          · exact m2 d' e6.symm b (Option.some.inj e8).symm j d a e2 e4
          · exact absurd e5 e7
        · rcases set_at h4 with ⟨e7, e8⟩ | ⟨e7, e8⟩
          · exact absurd e7 e5
          · exact S.din j k d d' a b e2 e6 e4 e8
  nn := fun j k d d' h1 h2 => by
    rcases set_at h1 with ⟨e1, e2⟩ | ⟨e1, e2⟩
    · exact absurd e2.symm (m d)
    · rcases set_at h2 with ⟨e5, e6⟩ | ⟨e5, e6⟩
      · exact absurd e6.symm (m d')
      · exact S.nn j k d d' e2 e6
  gh := S.gh
  tb := S.tb
  tk := S.tk
  nt0 := S.nt0
  ww := S.ww
/-- an owned thing changes -/
theorem FSt.put (S : FSt ω K g O σ H env x) {i : Nat} {a : Addr} {d d' : OwD} {o : HO} (h1 : env[i]? = some (.ow d)) (h2 : σ[i]? = some (some (.ref a))) (mu : MutC (some o)) (w : OwAt K O (upd H a o) a d') :
    FSt ω K g O σ (upd H a o) (env.set i (.ow d')) x := by
  have q := S.sl i _ _ h2 h1
  obtain ⟨oa, noa, nr⟩ : O a ∧ ¬ g.O0 a ∧ g.R ≠ some a := by
    cases q with
    | ow p q r s => exact ⟨p, q, r⟩
  have n0 : g.H0 a = none := by
    rcases S.new a oa with z | z
    · exact absurd z noa
    · exact z
  have kp : Keep O H (upd H a o) := fun b u n e _ => by
    rw [upd_ne (show b ≠ a from fun z => n (z ▸ oa))]
    exact e
  have ma := S.dom a oa
  have owa : OwAt K O H a d := by
    cases q with
    | ow p q r s => exact s
  obtain ⟨oo, hoo⟩ := owa.some
  refine ⟨S.sub, S.new, fun b hb => ?_, fun b u hR e tn => ?_, fun r e => ?_, by rw [List.length_set]; exact S.len, fun j s e' e1 e2 => ?_, fun j k e e' b c ne e1 e2 e3 e4 => ?_, fun j k e e' b c e1 e2 e3 e4 => ?_, fun j k e e' e1 e2 => ?_, fun p hp => (S.gh p hp).move kp .refl, tabs_upd S.tb hoo (mut_nt (by rw [← hoo]; exact ma)) (notC_ow owa hoo), S.tk, S.nt0, S.ww⟩
  · by_cases z : b = a
    · subst z; rw [upd_same]; exact mu
    · rw [upd_ne z]; exact S.dom b hb
  · have z : b ≠ a := fun z => by rw [z, n0] at e; cases e
    rw [upd_ne z]
    exact S.le b u hR e tn
  · obtain ⟨q1, q2, q3⟩ := S.row r e
    exact ⟨q1, q2, q3.updO oa (fun z => nr (z ▸ e))⟩
  · rcases set_at e2 with ⟨z1, z2⟩ | ⟨z1, z2⟩
    · subst z1
      subst z2
      rw [h2] at e1
      cases e1
      exact .ow oa noa nr w
    · cases S.sl j s e' e1 z2 with
      | no => exact .no _
      | va r => exact .va (r.move kp .refl)
      | @ow b d2 p q r t => exact .ow p q r (t.move (fun u eu _ => by rw [upd_ne (S.dis j i _ _ _ _ (Ne.symm z1) z2 h1 e1 h2)]; exact eu) kp .refl)
      | rw e => exact .rw e
      | @da b ds p q r t =>
        have nb : b ≠ a := fun z => by
          subst z
          obtain ⟨_, e, _⟩ := t
          have t0 := S.sl i _ _ h2 h1
          cases t0 with
          | ow _ _ _ t0 => cases d <;> (obtain ⟨_, e0, _⟩ := t0; rw [e] at e0; cases e0)
        exact .da p q r (t.mv (fun u eu _ => by rw [upd_ne nb]; exact eu) fun _ _ r => r.move kp .refl)
      | nd p q r t =>
        obtain ⟨n1, n2⟩ := S.din j i _ _ _ _ z2 h1 e1 h2
        exact .nd p q r (t.updO (Ne.symm n1) n2 kp)
      | fn n e r => exact .fn n (kp _ _ n e rfl) fun p hp => (r p hp).move kp .refl
      | sg n e r zz => exact .sg n (kp _ _ n e rfl) (fun p hp => (r p hp).move kp .refl) zz
  · have at1 : ∀ {j : Nat} {d2 : OwD}, (env.set i (.ow d'))[j]? = some (.ow d2) → ∃ d3, env[j]? = some (.ow d3) := fun {j d2} z => by
      rcases set_at z with ⟨z1, z2⟩ | ⟨z1, z2⟩
      · subst z1; exact ⟨_, h1⟩
      · exact ⟨_, z2⟩
    obtain ⟨d3, e1⟩ := at1 e1
    obtain ⟨d4, e2⟩ := at1 e2
    exact S.dis j k _ _ b c ne e1 e2 e3 e4
  · rcases set_at e1 with ⟨z1, z2⟩ | ⟨z1, z2⟩
    · cases z2
    · obtain ⟨n1, _⟩ := S.din j i _ _ _ _ z2 h1 e3 h2
      have ib : upd H a o b = H b := upd_ne (Ne.symm n1)
      rcases set_at e2 with ⟨z3, z4⟩ | ⟨z3, z4⟩
      · subst z3
        rw [h2] at e4
        cases e4
        exact ⟨n1, fun z => (S.din j _ _ _ _ _ z2 h1 e3 h2).2 (z.of ib)⟩
      · exact ⟨(S.din j k _ _ _ _ z2 z4 e3 e4).1, fun z => (S.din j k _ _ _ _ z2 z4 e3 e4).2 (z.of ib)⟩
  · rcases set_at e1 with ⟨z1, z2⟩ | ⟨z1, z2⟩
    · cases z2
    · rcases set_at e2 with ⟨z3, z4⟩ | ⟨z3, z4⟩
      · cases z4
      · exact S.nn j k _ _ z2 z4
/-- an owned thing is given up: it does not change any more -/
theorem FSt.freeze (S : FSt ω K g O σ H env x) {i : Nat} {a : Addr} {d : OwD} (h1 : env[i]? = some (.ow d)) (h2 : σ[i]? = some (some (.ref a))) :
    FSt ω K g (fun b => O b ∧ b ≠ a) σ H (env.set i (.va d.d)) x := by
  have q := S.sl i _ _ h2 h1
  obtain ⟨oa, noa, nr, w⟩ : O a ∧ ¬ g.O0 a ∧ g.R ≠ some a ∧ OwAt K O H a d := by
    cases q with
    | ow p q r s => exact ⟨p, q, r, s⟩
  have wd : Wid O (fun b => O b ∧ b ≠ a) H := fun b z => .inl z.1
  have kp : Keep O H H := fun _ _ _ e _ => e
  refine ⟨fun b z => ⟨S.sub b z, fun e => noa (e ▸ z)⟩, fun b z => S.new b z.1, fun b z => S.dom b z.1, S.le, (fun r e => ⟨(S.row r e).1, (S.row r e).2.1, (S.row r e).2.2.sub fun _ h => h.1⟩), by rw [List.length_set]; exact S.len, fun j s e' e1 e2 => ?_, fun j k e e' b c ne e1 e2 e3 e4 => ?_, fun j k e e' b c e1 e2 e3 e4 => ?_, fun j k e e' e1 e2 => ?_, fun p hp => (S.gh p hp).move kp wd, S.tb, S.tk, S.nt0, S.ww⟩
  · rcases set_at e2 with ⟨z1, z2⟩ | ⟨z1, z2⟩
    · subst z1
      subst z2
      rw [h2] at e1
      cases e1
      refine .va ?_
      cases d with
      | lst ds => obtain ⟨xs, e, r⟩ := w; exact .lst (fun z => z.2 rfl) e (r.move kp wd)
      | dk ds => obtain ⟨xs, e, r⟩ := w; exact .dK (fun z => z.2 rfl) (.inl e) (r.move kp wd)
      | dt ds => obtain ⟨xs, e, r⟩ := w; exact .dT (fun z => z.2 rfl) (.inl e) (r.move kp wd)
    · cases S.sl j s e' e1 z2 with
      | no => exact .no _
      | va r => exact .va (r.move kp wd)
      | @ow b d2 p q r t => exact .ow ⟨p, S.dis j i _ _ _ _ (Ne.symm z1) z2 h1 e1 h2⟩ q r (t.move (fun u eu _ => eu) kp wd)
      | rw e => exact .rw e
      | @da b ds p q r t =>
        have nb : b ≠ a := fun z => by
          subst z
          obtain ⟨_, e, _⟩ := t
          cases d <;> (obtain ⟨_, e0, _⟩ := w; rw [e] at e0; cases e0)
        exact .da ⟨p, nb⟩ q r (t.mv (fun _ e _ => e) fun _ _ r => r.move kp wd)
      | nd p q r t =>
        obtain ⟨n1, n2⟩ := S.din j i _ _ _ _ z2 h1 e1 h2
        exact .nd ⟨p, Ne.symm n1⟩ q r (t.mv rfl (fun _ _ => rfl) (fun _ _ r => r.move kp wd) (fun _ _ r => r.move kp wd) fun b i x y z => ⟨⟨x, fun z => n2 (z ▸ i)⟩, y, z⟩)
      | fn n e r => exact .fn (fun z => n z.1) e fun p hp => (r p hp).move kp wd
      | sg n e r zz => exact .sg (fun z => n z.1) e (fun p hp => (r p hp).move kp wd) zz
  · rcases set_at e1 with ⟨z1, z2⟩ | ⟨z1, z2⟩
    · cases z2
    · rcases set_at e2 with ⟨z3, z4⟩ | ⟨z3, z4⟩
      · cases z4
      · exact S.dis j k _ _ b c ne z2 z4 e3 e4
  · rcases set_at e1 with ⟨z1, z2⟩ | ⟨z1, z2⟩
    · cases z2
    · rcases set_at e2 with ⟨z3, z4⟩ | ⟨z3, z4⟩
      · cases z4
      · exact S.din j k _ _ b c z2 z4 e3 e4
  · rcases set_at e1 with ⟨z1, z2⟩ | ⟨z1, z2⟩
    · cases z2
    · rcases set_at e2 with ⟨z3, z4⟩ | ⟨z3, z4⟩
      · cases z4
      · exact S.nn j k _ _ z2 z4
/-- a new thing, owned -/
def oAdd (O : Addr → Prop) (p : Addr) : Addr → Prop := fun a => O a ∨ a = p
theorem wid_add {p : Addr} (h : H p = none) : Wid O (oAdd O p) H := fun a z => z.elim .inl fun e => .inr (e ▸ .of h)
theorem RowG.own {r p : Addr} {o : HO} (q : RowG K g O H r x) (hp : H p = none) : RowG K g (oAdd O p) (upd H p o) r x :=
  q.mv (fun u e _ => by rw [upd_ne (ne_of_none e hp)]; exact e) (.of (same_upd hp)) (wid_add hp)
theorem FSt.own (S : FSt ω K g O σ H env x) {p : Addr} {o : HO} (hp : H p = none) (mu : MutC (some o)) : FSt ω K g (oAdd O p) σ (upd H p o) env x := by
  have sm := same_upd (o := o) hp
  have S1 := S.same sm
  have h0 : g.H0 p = none := by
    cases q : g.H0 p with
    | none => rfl
    | some u =>
      by_cases hR : g.R = some p
      · have z := S.dom p (S.sub p (S.row p hR).1)
        rw [hp] at z
        exact z.elim
      · rw [S.le p u hR q (S.nt0 _ _ q)] at hp; cases hp
  have wd : Wid O (oAdd O p) H := wid_add hp
  refine ⟨fun a h => .inl (S.sub a h), fun a h => ?_, fun a h => ?_, S1.le, (fun r e => ⟨(S.row r e).1, (S.row r e).2.1, (S.row r e).2.2.own hp⟩), S.len, fun j s e' e1 e2 => ?_, S.dis, S1.din, S.nn, fun q hq => (S.gh q hq).move (.of sm) wd, S1.tb, S1.tk, S1.nt0, S1.ww⟩
  · rcases h with h | rfl
    · exact S.new a h
    · exact .inr h0
  · rcases h with h | rfl
    · exact S1.dom a h
    · rw [upd_same]; exact mu
  · cases S.sl j s e' e1 e2 with
    | no => exact .no _
    | va r => exact .va (r.move (.of sm) wd)
    | ow p q r t => exact .ow (.inl p) q r (t.move (fun u eu _ => sm _ _ eu) (.of sm) wd)
    | rw e => exact .rw e
    | da p q r t => exact .da (.inl p) q r (t.mv (fun u eu _ => sm _ _ eu) fun _ _ r => r.move (.of sm) wd)
    | nd a b c d => exact .nd (.inl a) b c (d.mv (by obtain ⟨o, q, t⟩ := d.tk; rw [q]; exact sm _ _ q) (fun b i => by obtain ⟨_, _, r, ys, q⟩ := d.inn i; rw [q]; exact sm _ _ q) (fun _ _ r => r.move (.of sm) wd) (fun _ _ r => r.move (.of sm) wd) fun _ _ x y z => ⟨.inl x, y, z⟩)
    | fn n e r => exact .fn (wd.no n e) (sm _ _ e) fun p hp => (r p hp).move (.of sm) wd
    | sg n e r zz => exact .sg (wd.no n e) (sm _ _ e) (fun p hp => (r p hp).move (.of sm) wd) zz
theorem FSt.newp (S : FSt ω K g O σ H env x) {p : Addr} (hp : H p = none) : ¬ g.O0 p ∧ g.R ≠ some p := by
  refine ⟨fun z => S.notO hp (S.sub p z), fun z => S.notO hp (S.sub p (S.row p z).1)⟩
theorem own_nd (S : FSt ω K g O σ H env x) (l : Le g H H') {p : Addr} (hp : Gone H p) {j : Nat} {d : OwD} {b : Addr} (h1 : env[j]? = some (.nd d)) (h2 : σ[j]? = some (some (.ref b))) : p ≠ b ∧ ¬ Inn H' b p := by
  obtain ⟨n1, n2⟩ := S.ndNew hp h1 h2
  obtain ⟨_, _, r, n⟩ := S.ndAt h1 h2
  obtain ⟨o, q, t⟩ := n.tk
  exact ⟨n1, fun z => n2 (z.of (by rw [q]; exact l _ o r q t))⟩
/-- of what is stored: an owned thing is new, and it is no thing of lists -/
def NwO (H : Hp) (v : V) : FSl → Prop
  | .ow _ => ∃ p, v = .ref p ∧ Gone H p
  | .nd _ => False
  | _ => True
theorem NwO.ow {v : V} {sl : FSl} (h : NwO H v sl) (d : OwD) (e : sl = .ow d) : ∃ p, v = .ref p ∧ Gone H p := by subst e; exact h
theorem NwO.nn {v : V} {sl : FSl} (h : NwO H v sl) (d : OwD) : sl ≠ .nd d := fun e => by subst e; exact h
end
/-! ### what is stored in a name: a value, or a new owned thing -/
abbrev FX := FEn → FRow → Option (FSl × FRow)
def tX (ω : World) (K : PySem.W.Frag) (f : FX) : TE := fun σ H Q => ∃ g O env x sl x', FSt ω K g O σ H env x ∧ f env x = some (sl, x') ∧
  ∀ O' v H', FSt ω K g O' σ H' env x' → Le g H H' → Wid O O' H → (∀ a, O a → O' a) → SlOk K g O' H' (some v) sl → NwO H v sl → Q v H'
structure SX (X : Cx) (e : Expr) (f : FX) : Prop where
  out : PE X e (tX X.w X.K f)
section
variable {X : Cx} {a b c e : Expr} {es : List Expr} {fa fb fc f : FE} {pos : Pos}
def xVal (f : FE) : FX := fun env x => match f env x with
  | some (d, x1) => some (.va d, x1)
  | none => none
theorem sx_of (h : SE X e f) : SX X e (xVal f) := by
  refine ⟨PEw h.out fun σ H Q h => ?_⟩
  obtain ⟨g, O, env, x, sl, x', S, e, k⟩ := h
  unfold xVal at e
  split at e
  · rename_i d x1 e1
    cases e
    exact ⟨g, O, env, x, d, x', S, e1, fun v H1 S1 l1 r1 => k O v H1 S1 l1 .refl (fun _ h => h) (.va r1) True.intro⟩
  · cases e
def xLst (t : FA) : FX := fun env x => match t env x with
  | some (ds, x1) => if ds.length ≤ maxLen then some (.ow (.lst ds), x1) else none
  | none => none
theorem Le.gone {g : FG} {H H' : Hp} {p : Addr} {ω : World} {K : PySem.W.Frag} {O' : Addr → Prop} {σ' : L2.St} {env' : FEn} {x' : FRow} (l : Le g H H') (h : Gone H' p) (S' : FSt ω K g O' σ' H' env' x') : Gone H p := fun u q => by
  cases t : isNT u with
  | false => rfl
  | true =>
    by_cases hR : g.R = some p
    · exact absurd (S'.sub p (S'.row p hR).1) fun z => by
        have d := S'.dom p z
        cases q' : H' p with
        | none => rw [q'] at d; exact d
        | some o => exact h.no q' (mut_nt (by rw [← q']; exact d))
    · exact (h.no (l p u hR q t) t).elim
theorem sx_lst {t : FA} (h : SA X es t) : SX X (.List es pos) (xLst t) := by
  refine ⟨PEw (pe_lst h.out) fun σ H Q h => ?_⟩
  obtain ⟨g, O, env, x, d, x', S, e, k⟩ := h
  unfold xLst at e
  split at e
  · rename_i ds x1 e1
    split at e
    · rename_i hl
      cases e
      refine ⟨g, O, env, x, ds, x', S, e1, fun v H1 S1 l1 r1 => ⟨by rw [r1.length]; exact maxLen_ok hl, fun p hp => ?_⟩⟩
      have sm := same_upd (o := .lst v) hp
      have n1 := S1.newp hp
      have S2 := S1.own (o := .lst v) hp True.intro
      have hp0 := Le.gone l1 (.of hp) S1
      refine k _ _ _ S2 (l1.trans (.of sm)) (fun a z => z.elim .inl fun e => .inr (e ▸ hp0)) (fun a z => .inl z) (.ow (.inr rfl) n1.1 n1.2 ⟨v, upd_same, r1.move (.of sm) (wid_add hp)⟩) ⟨p, rfl, hp0⟩
    · cases e
  · cases e
def xNew (d : OwD) : FX := fun _ x => some (.ow d, x)
theorem sx_dT : SX X (.Dict [] [] pos) (xNew (.dt [])) := by
  refine ⟨PEw pe_dnewT fun σ H Q h => ?_⟩
  obtain ⟨g, O, env, x, d, x', S, e, k⟩ := h
  cases e
  intro p hp
  have n1 := S.newp hp
  exact k _ _ _ (S.own (o := .dT []) hp True.intro) (.of (same_upd hp)) (wid_add hp) (fun a z => .inl z) (.ow (.inr rfl) n1.1 n1.2 ⟨[], upd_same, .nil⟩) ⟨p, rfl, .of hp⟩
/-- {k: v} -/
def dKey : D → Option L2.Key
  | .int i => some (.inl i)
  | .str s => some (.inr s)
  | _ => none
theorem dKey_ok {d : D} {k : L2.Key} (h : dKey d = some k) : d = keyD k := by
  cases d <;> simp [dKey] at h <;> subst h <;> rfl
theorem dKey_rp {K : PySem.W.Frag} {O : Addr → Prop} {H : Hp} {v : V} {d : D} {k : L2.Key} (h : dKey d = some k) (r : Rp K O H v d) : v = kV k := by
  cases d <;> simp [dKey] at h <;> subst h <;> cases r <;> rfl
def xDict1 (fk fv : FE) : FX := fun env x => match fk env x with
  | some (k, x1) => match dKey k with
    | some _ => match fv env x1 with
      | some (v, x2) => some (.ow (.dk [(k, v)]), x2)
      | none => none
    | none => none
  | none => none
/-! ### statements -/
def sSet (i : Nat) (f : FX) : FS := fun env x => match f env x with
  | some (sl, x1) => some (.nx (env.set i sl), x1)
  | none => none
theorem own_ne {ω : World} {K : PySem.W.Frag} {g : FG} {O : Addr → Prop} {σ : L2.St} {H : Hp} {env : FEn} {x : FRow} (S : FSt ω K g O σ H env x) {p : Addr} (hp : Gone H p) {j : Nat} {d : OwD} {b : Addr} (h1 : env[j]? = some (.ow d)) (h2 : σ[j]? = some (some (.ref b))) : b ≠ p := fun z => by
  have q := S.sl j _ _ h2 h1
  cases q with
  | ow _ _ _ t =>
    exact t.live hp z
def isOwn : FSl → Bool
  | .ow _ => true
  | .da _ => true
  | .nd _ => true
  | _ => false
theorem own_ne2 {ω : World} {K : PySem.W.Frag} {g : FG} {O : Addr → Prop} {σ : L2.St} {H : Hp} {env : FEn} {x : FRow} (S : FSt ω K g O σ H env x) {p : Addr} (hp : Gone H p) {j : Nat} {e : FSl} {b : Addr} (h1 : env[j]? = some e) (h0 : isOwn e = true) (h2 : σ[j]? = some (some (.ref b))) : b ≠ p := fun z => by
  have q := S.sl j _ _ h2 h1
  cases q with
  | ow _ _ _ t =>
    exact t.live hp z
  | da _ _ _ t =>
    obtain ⟨u, q, _⟩ := t
    rw [z] at q; exact hp.no q rfl
  | nd _ _ _ t =>
    obtain ⟨o, q, tn⟩ := t.tk
    rw [z] at q; exact hp.no q tn
  | _ => cases h0
theorem ss_set {i : Nat} {n : Str} {f : FX} {pos' : Pos} (hN : X.N.Nodup) (hi : X.N[i]? = some n) (hx : Loc X.env.scope n) (he : SX X e f) (hs : swapsWith e (some (.Name n pos')) pos.line X.env = pure false := by rfl)
    (hf : X.fn n = true ∨ X.env.scope.names.lookup n = some .local := by first | exact .inl rfl | exact .inr rfl | assumption) : SS X (.Assign [.Name n pos'] e pos) (sSet i f) := by
  refine ⟨PSw (ps_set hN hi hx he.out hs hf) fun Dn σ H h => ?_⟩
  obtain ⟨g, O, env, x, r, x', S, e, k⟩ := h
  unfold sSet at e
  split at e
  · rename_i sl x1 e1
    cases e
    exact ⟨g, O, env, x, sl, x', S, e1, fun O' v H' S' l w sub r nw => k O' _ H' (S'.setv i r (fun d z => by
      obtain ⟨p, e2, hp⟩ := nw.ow d z
      exact ⟨p, e2, fun j d' b h1 h2 => own_ne S hp h1 h2⟩) nw.nn fun d z p ep j d' b h1 h2 => by
      obtain ⟨q, e2, hp⟩ := nw.ow d z
      rw [ep] at e2; cases e2
      exact own_nd S l hp h1 h2)⟩
  · cases e
theorem sl_move {ω : World} {K : PySem.W.Frag} {g : FG} {O O' : Addr → Prop} {σ : L2.St} {H H' : Hp} {env : FEn} {x : FRow} {v : V} {sl : FSl} (S : FSt ω K g O σ H env x) (l : Le g H H') (w : Wid O O' H) (sub : ∀ a, O a → O' a) (r : SlOk K g O H (some v) sl) : SlOk K g O' H' (some v) sl := by
  cases r with
  | no => exact .no _
  | va r => exact .va (r.move (S.keep l) w)
  | ow p q r t => exact .ow (sub _ p) q r (t.move (fun o e t => l _ o r e t) (S.keep l) w)
  | rw e => exact .rw e
  | da p q r t => exact .da (sub _ p) q r (t.mv (fun o e t => l _ o r e t) fun _ _ r => r.move (S.keep l) w)
  | nd a b c d => exact .nd (sub _ a) b c (d.mv (by obtain ⟨o, q, t⟩ := d.tk; rw [q]; exact l _ o c q t) (fun b i => by obtain ⟨_, _, r, ys, q⟩ := d.inn i; rw [q]; exact l _ _ r q rfl) (fun _ _ r => r.move (S.keep l) w) (fun _ _ r => r.move (S.keep l) w) fun _ _ x y z => ⟨sub _ x, y, z⟩)
  | fn n e r => exact .fn (w.no n e) (S.keep l _ _ n e rfl) fun p hp => (r p hp).move (S.keep l) w
  | sg n e r zz => exact .sg (w.no n e) (S.keep l _ _ n e rfl) (fun p hp => (r p hp).move (S.keep l) w) zz
def sRet (f : FE) : FS := fun env x => match f env x with
  | some (d, x1) => some (.rt d, x1)
  | none => none
theorem ss_ret (h : SE X e f) : SS X (.Return (some e) pos) (sRet f) := by
  refine ⟨PSw (ps_ret h.out) fun Dn σ H h => ?_⟩
  obtain ⟨g, O, env, x, r, x', S, e, k⟩ := h
  unfold sRet at e
  split at e
  · rename_i d x1 e1
    cases e
    exact ⟨g, O, env, x, d, x', S, e1, fun v H' S' l r => k O σ H' v env S' r⟩
  · cases e
def sNo : FS := fun _ _ => none
theorem ss_no {st : Stmt} : SS X st sNo := ⟨PSw ps_never fun Dn σ H h => by
  obtain ⟨g, O, env, x, r, x', S, e, k⟩ := h
  cases e⟩
def sNil : FS := fun env x => some (.nx env, x)
def sSeq (f h : FS) : FS := fun env x => match f env x with
  | some (.nx e1, x1) => h e1 x1
  | some (.rt d, x1) => some (.rt d, x1)
  | some (.bk e1, x1) => some (.bk e1, x1)
  | some (.ct e1, x1) => some (.ct e1, x1)
  | none => none
theorem sss_nil : SSs X [] sNil := ⟨PSsw pss_nil fun Dn σ H h => by
  obtain ⟨g, O, env, x, r, x', S, e, k⟩ := h
  cases e
  exact k O σ H S⟩
theorem sss_cons {st : Stmt} {rest : List Stmt} {f h : FS} (h1 : SS X st f) (h2 : SSs X rest h) : SSs X (st :: rest) (sSeq f h) := by
  refine ⟨PSsw (pss_cons h1.out h2.out) fun Dn σ H h => ?_⟩
  obtain ⟨g, O, env, x, r, x', S, e, k⟩ := h
  unfold sSeq at e
  split at e
  · rename_i e1 x1 q
    exact ⟨g, O, env, x, _, x1, S, q, fun O' σ' H' S' => ⟨g, O', e1, x1, r, x', S', e, k⟩⟩
  · rename_i d x1 q
    cases e
    exact ⟨g, O, env, x, _, x', S, q, k⟩
  · rename_i d x1 q
    cases e
    exact ⟨g, O, env, x, _, x', S, q, k⟩
  · rename_i d x1 q
    cases e
    exact ⟨g, O, env, x, _, x', S, q, k⟩
  · cases e
theorem sss_one {st : Stmt} {f : FS} (h1 : SS X st f) : SSs X [st] f := ⟨pss_one h1.out⟩
def sIf (t : FT) (f h : FS) : FS := fun env x => match t env x with
  | some (true, x1) => f env x1
  | some (false, x1) => h env x1
  | none => none
theorem ss_if {t : FT} {p q : List Stmt} {f h : FS} (ht : ST X c t) (h1 : SSs X p f) (h2 : SSs X q h) : SS X (.If c p q pos) (sIf t f h) := by
  refine ⟨PSw (ps_if ht.out h1.out h2.out) fun Dn σ H h => ?_⟩
  obtain ⟨g, O, env, x, r, x', S, e, k⟩ := h
  unfold sIf at e
  split at e
  · rename_i x1 e1
    refine ⟨g, O, env, x, _, x1, S, e1, fun H' S' l => ?_⟩
    refine iteT ?_
    exact ⟨g, O, env, x1, r, x', S', e, k⟩
  · rename_i x1 e1
    refine ⟨g, O, env, x, _, x1, S, e1, fun H' S' l => ?_⟩
    refine iteF ?_
    exact ⟨g, O, env, x1, r, x', S', e, k⟩
  · cases e
/-- an owned name is given up ahead of a statement -/
def eFrz (i : Nat) (env : FEn) : FEn := match env[i]? with
  | some (.ow d) => env.set i (.va d.d)
  | _ => env
def sFrz (i : Nat) (f : FS) : FS := fun env x => f (eFrz i env) x
theorem FSt.frz {ω : World} {K : PySem.W.Frag} {g : FG} {O : Addr → Prop} {σ : L2.St} {H : Hp} {env : FEn} {x : FRow} (S : FSt ω K g O σ H env x) (i : Nat) : ∃ O', FSt ω K g O' σ H (eFrz i env) x := by
  unfold eFrz
  split
  · rename_i d q
    obtain ⟨s, e1, q1⟩ := S.at q
    cases q1 with
    | ow p q1 q2 q3 => exact ⟨_, S.freeze q e1⟩
  · exact ⟨O, S⟩
theorem ss_frz {st : Stmt} {f : FS} (i : Nat) (h : SS X st f) : SS X st (sFrz i f) := by
  refine ⟨PSw h.out fun Dn σ H h => ?_⟩
  obtain ⟨g, O, env, x, r, x', S, e, k⟩ := h
  obtain ⟨O', S'⟩ := S.frz i
  exact ⟨g, O', eFrz i env, x, r, x', S', e, k⟩
end
end RT
namespace RT
open PySem PySem.Spec PyProof.Rows L2
/-! ### dicts -/
def dKeys : List D → Option (List L2.Key)
  | [] => some []
  | d :: ds => match dKey d, dKeys ds with
    | some k, some ks => some (k :: ks)
    | _, _ => none
theorem dKeys_ok : ∀ {ds : List D} {ks : List L2.Key}, dKeys ds = some ks → ds = ks.map keyD
  | [], ks, h => by simp [dKeys] at h; subst h; rfl
  | d :: ds, ks, h => by
    unfold dKeys at h
    split at h
    · rename_i k ks' h1 h2
      cases h
      rw [dKey_ok h1, dKeys_ok h2]
      rfl
    · cases h
theorem dKeys_map : ∀ ks : List L2.Key, dKeys (ks.map keyD) = some ks
  | [] => rfl
  | k :: ks => by
    have h : dKey (keyD k) = some k := by cases k <;> rfl
    simp only [List.map_cons, dKeys, h, dKeys_map ks]
theorem dKey_key (k : L2.Key) : dKey (keyD k) = some k := by cases k <;> rfl
theorem rp_keys {K : PySem.W.Frag} {O : Addr → Prop} {H : Hp} : ∀ {xs : List V} {ks : List L2.Key}, RpA K O H xs (ks.map keyD) → xs = ks.map kV
  | _, [], h => by cases h; rfl
  | _, k :: ks, h => by
    cases h with
    | cons a b => rw [dKey_rp (dKey_key k) a, rp_keys b]; rfl
def dKeyT : D → Option (List L2.Key)
  | .tuple ds => dKeys ds
  | _ => none
theorem dKeyT_ok {d : D} {ks : List L2.Key} (h : dKeyT d = some ks) : d = .tuple (ks.map keyD) := by
  cases d <;> simp [dKeyT] at h
  rw [dKeys_ok h]
theorem dKeyT_key (ks : List L2.Key) : dKeyT (.tuple (ks.map keyD)) = some ks := dKeys_map ks
section
variable {κ : Type} [DecidableEq κ]
/-- look up, put: by a reading of keys -/
def valD (kf : D → Option κ) (kvs : List (D × D)) (k : κ) : Option D := (kvs.find? fun p => decide (kf p.1 = some k)).map (·.2)
def putD (kf : D → Option κ) (kvs : List (D × D)) (kd : D) (k : κ) (v : D) : List (D × D) :=
  if (kvs.any fun p => decide (kf p.1 = some k)) then kvs.map fun p => if kf p.1 = some k then (p.1, v) else p else kvs ++ [(kd, v)]
end
section
variable {ω : World} {K : PySem.W.Frag} {O : Addr → Prop} {H : Hp}
theorem RpK.val {k : L2.Key} : ∀ {kvs : List (L2.Key × V)} {ds : List (D × D)}, RpK K O H kvs ds → (valV kvs k = none ∧ valD dKey ds k = none) ∨ ∃ v d, valV kvs k = some v ∧ valD dKey ds k = some d ∧ Rp K O H v d
  | _, _, .nil => .inl ⟨rfl, rfl⟩
  | _, _, .cons (k := k') (v := v) (d := d) (vs := vs) (ds := ds) a b => by
    by_cases e : k' = k
    · refine .inr ⟨v, d, valV_pos e, ?_, a⟩
      simp [valD, dKey_key, e]
    · rw [valV_neg (p := (k', v)) e]
      have h : valD dKey ((keyD k', d) :: ds) k = valD dKey ds k := by simp [valD, dKey_key, e]
      rw [h]
      exact RpK.val b
theorem RpK.any {k : L2.Key} : ∀ {kvs : List (L2.Key × V)} {ds : List (D × D)}, RpK K O H kvs ds → (kvs.any fun kv => decide (kv.1 = k)) = ds.any fun p => decide (dKey p.1 = some k)
  | _, _, .nil => rfl
  | _, _, .cons (k := k') a b => by
    rw [List.any_cons, List.any_cons, RpK.any b, dKey_key]
    simp
theorem RpK.repl {k : L2.Key} {v : V} {d : D} (r : Rp K O H v d) : ∀ {kvs : List (L2.Key × V)} {ds : List (D × D)}, RpK K O H kvs ds → RpK K O H (kvs.map fun kv => if kv.1 = k then (kv.1, v) else kv) (ds.map fun p => if dKey p.1 = some k then (p.1, d) else p)
  | _, _, .nil => .nil
  | _, _, .cons (k := k') a b => by
    rw [List.map_cons, List.map_cons]
    by_cases e : k' = k
    · subst e
      rw [if_pos rfl, if_pos (dKey_key k')]
      exact .cons r (RpK.repl r b)
    · rw [if_neg e, if_neg (by rw [dKey_key]; exact fun z => e (Option.some.inj z))]
      exact .cons a (RpK.repl r b)
theorem RpK.app : ∀ {a c : List (L2.Key × V)} {b d : List (D × D)}, RpK K O H a b → RpK K O H c d → RpK K O H (a ++ c) (b ++ d)
  | _, _, _, _, .nil, h => h
  | _, _, _, _, .cons p q, h => .cons p (RpK.app q h)
theorem RpK.length : ∀ {a : List (L2.Key × V)} {b : List (D × D)}, RpK K O H a b → a.length = b.length
  | _, _, .nil => rfl
  | _, _, .cons _ q => by rw [List.length_cons, List.length_cons, RpK.length q]
theorem RpK.put {k : L2.Key} {v : V} {d : D} {kvs : List (L2.Key × V)} {ds : List (D × D)} (q : RpK K O H kvs ds) (r : Rp K O H v d) : RpK K O H (putK kvs k v) (putD dKey ds (keyD k) k d) := by
  unfold putK putD
  rw [q.any]
  split
  · exact q.repl r
  · exact q.app (.cons r .nil)
theorem RpT.val {k : List L2.Key} : ∀ {kvs : List (List L2.Key × V)} {ds : List (D × D)}, RpT K O H kvs ds → (valV kvs k = none ∧ valD dKeyT ds k = none) ∨ ∃ v d, valV kvs k = some v ∧ valD dKeyT ds k = some d ∧ Rp K O H v d
  | _, _, .nil => .inl ⟨rfl, rfl⟩
  | _, _, .cons (k := k') (v := v) (d := d) (vs := vs) (ds := ds) a b => by
    by_cases e : k' = k
    · refine .inr ⟨v, d, valV_pos e, ?_, a⟩
      simp [valD, dKeyT_key, e]
    · rw [valV_neg (p := (k', v)) e]
      have h : valD dKeyT ((.tuple (k'.map keyD), d) :: ds) k = valD dKeyT ds k := by simp [valD, dKeyT_key, e]
      rw [h]
      exact RpT.val b
theorem RpT.any {k : List L2.Key} : ∀ {kvs : List (List L2.Key × V)} {ds : List (D × D)}, RpT K O H kvs ds → (kvs.any fun kv => decide (kv.1 = k)) = ds.any fun p => decide (dKeyT p.1 = some k)
  | _, _, .nil => rfl
  | _, _, .cons (k := k') a b => by
    rw [List.any_cons, List.any_cons, RpT.any b, dKeyT_key]
    simp
theorem RpT.repl {k : List L2.Key} {v : V} {d : D} (r : Rp K O H v d) : ∀ {kvs : List (List L2.Key × V)} {ds : List (D × D)}, RpT K O H kvs ds → RpT K O H (kvs.map fun kv => if kv.1 = k then (kv.1, v) else kv) (ds.map fun p => if dKeyT p.1 = some k then (p.1, d) else p)
  | _, _, .nil => .nil
  | _, _, .cons (k := k') a b => by
    rw [List.map_cons, List.map_cons]
    by_cases e : k' = k
    · subst e
      rw [if_pos rfl, if_pos (dKeyT_key k')]
      exact .cons r (RpT.repl r b)
    · rw [if_neg e, if_neg (by rw [dKeyT_key]; exact fun z => e (Option.some.inj z))]
      exact .cons a (RpT.repl r b)
theorem RpT.app : ∀ {a c : List (List L2.Key × V)} {b d : List (D × D)}, RpT K O H a b → RpT K O H c d → RpT K O H (a ++ c) (b ++ d)
  | _, _, _, _, .nil, h => h
  | _, _, _, _, .cons p q, h => .cons p (RpT.app q h)
theorem RpT.length : ∀ {a : List (List L2.Key × V)} {b : List (D × D)}, RpT K O H a b → a.length = b.length
  | _, _, .nil => rfl
  | _, _, .cons _ q => by rw [List.length_cons, List.length_cons, RpT.length q]
theorem RpT.put {k : List L2.Key} {v : V} {d : D} {kvs : List (List L2.Key × V)} {ds : List (D × D)} (q : RpT K O H kvs ds) (r : Rp K O H v d) : RpT K O H (putK kvs k v) (putD dKeyT ds (.tuple (k.map keyD)) k d) := by
  unfold putK putD
  rw [q.any]
  split
  · exact q.repl r
  · exact q.app (.cons r .nil)
end
/-- d[k] as data -/
def gDGet : D → D → Option (Option D)
  | .dict kvs, k => match dKey k with
    | some q => some (valD dKey kvs q)
    | none => none
  | .dictT kvs, k => match dKeyT k with
    | some q => some (valD dKeyT kvs q)
    | none => none
  | _, _ => none
theorem dget_ok {K : PySem.W.Frag} {g : FG} {O : Addr → Prop} {H : Hp} {v w : V} {d k : D} {r : Option D} (h : gDGet d k = some r) (rv : RpB K g O H v d) (rk : RpB K g O H w k) :
    ∃ a o, v = .ref a ∧ DGet H a w o ∧ ((o = none ∧ r = none) ∨ ∃ y z, o = some y ∧ r = some z ∧ Rp K O H y z) := by
  unfold gDGet at h
  split at h
  · split at h
    · rename_i kvs q e
      cases h
      obtain ⟨a, vs, rfl, hH, hr⟩ := rv.dct
      have ew : w = kV q := by
        rw [dKey_ok e] at rk
        cases q with
        | inl i => exact rk.int
        | inr s => exact rk.str
      subst ew
      refine ⟨a, _, rfl, .inl ⟨_, _, hH, rfl, rfl⟩, ?_⟩
      rcases hr.val (k := q) with ⟨h1, h2⟩ | ⟨y, z, h1, h2, h3⟩
      · exact .inl ⟨h1, h2⟩
      · exact .inr ⟨y, z, h1, h2, h3⟩
    · cases h
  · split at h
    · rename_i kvs q e
      cases h
      obtain ⟨a, vs, rfl, hH, hr⟩ := rv.dcT
      rw [dKeyT_ok e] at rk
      obtain ⟨b, xs, rfl, hb, hx⟩ := rk.tup.tupAt
      rw [rp_keys hx] at hb
      refine ⟨a, _, rfl, .inr ⟨_, _, _, hH, rfl, hb, rfl⟩, ?_⟩
      rcases hr.val (k := q) with ⟨h1, h2⟩ | ⟨y, z, h1, h2, h3⟩
      · exact .inl ⟨h1, h2⟩
      · exact .inr ⟨y, z, h1, h2, h3⟩
    · cases h
  · cases h
section
variable {X : Cx} {a b c e : Expr} {es : List Expr} {fa fb fc f : FE} {pos : Pos}
def gDAt : D → D → Option D := fun d k => match gDGet d k with
  | some (some r) => some r
  | _ => none
theorem se_dget (hu : X.A.units + 1 < cLine) (ha : SB X a fa) (hb : SB X b fb) (hs : NoSl b := by exact fun _ _ => rfl) : SE X (.Subscript a b pos) (fBin gDAt fa fb) := by
  refine ⟨PEw (pe_dget hu ha.out hb.out hs) fun σ H Q h => ?_⟩
  obtain ⟨g, O, env, x, d, x', S, e, k⟩ := h
  obtain ⟨da, x1, db, r, e1, e2, e3, rfl⟩ := fBin_some e
  refine two S e1 e2 fun v w H' S' l rv rw => ?_
  unfold gDAt at e3
  split at e3
  · rename_i z q
    cases e3
    obtain ⟨p, o, rfl, hd, h | ⟨y, z', rfl, h2, h3⟩⟩ := dget_ok q rv rw
    · cases h.2
    · cases h2
      exact ⟨p, y, rfl, hd, k _ _ S' l h3⟩
  · cases e3
def gDIn : D → D → Option D := fun k d => match gDGet d k with
  | some o => some (.bool o.isSome)
  | _ => none
def gDNotIn : D → D → Option D := fun k d => match gDGet d k with
  | some o => some (.bool (!o.isSome))
  | _ => none
theorem isSome_of {o : Option V} {r : Option D} {K : PySem.W.Frag} {O : Addr → Prop} {H : Hp} (h : (o = none ∧ r = none) ∨ ∃ y z, o = some y ∧ r = some z ∧ Rp K O H y z) : o.isSome = r.isSome := by
  rcases h with ⟨rfl, rfl⟩ | ⟨y, z, rfl, rfl, _⟩ <;> rfl
theorem pc_dinB (hu : X.A.units + 1 < cLine) (ha : SB X a fa) (hb : SB X b fb) : PC X .In a b (tE X.w X.K (fBin gDIn fa fb)) := by
  refine ⟨fun pins s σ H Q I h => (pc_din hu ha.out hb.out).run pins s σ H Q I ?_⟩
  obtain ⟨g, O, env, x, d, x', S, e, k⟩ := h
  obtain ⟨da, x1, db, r, e1, e2, e3, rfl⟩ := fBin_some e
  refine two S e1 e2 fun v w H' S' l rv rw => ?_
  unfold gDIn at e3
  split at e3
  · rename_i z q
    cases e3
    obtain ⟨p, o, rfl, hd, h⟩ := dget_ok q rw rv
    refine ⟨p, o, rfl, hd, ?_⟩
    rw [isSome_of h]
    exact k _ _ S' l (.bl _)
  · cases e3
theorem pc_dnotB (hu : X.A.units + 1 < cLine) (ha : SB X a fa) (hb : SB X b fb) : PC X .NotIn a b (tE X.w X.K (fBin gDNotIn fa fb)) := by
  refine ⟨fun pins s σ H Q I h => (pc_dnotin hu ha.out hb.out).run pins s σ H Q I ?_⟩
  obtain ⟨g, O, env, x, d, x', S, e, k⟩ := h
  obtain ⟨da, x1, db, r, e1, e2, e3, rfl⟩ := fBin_some e
  refine two S e1 e2 fun v w H' S' l rv rw => ?_
  unfold gDNotIn at e3
  split at e3
  · rename_i z q
    cases e3
    obtain ⟨p, o, rfl, hd, h⟩ := dget_ok q rw rv
    refine ⟨p, o, rfl, hd, ?_⟩
    rw [isSome_of h]
    exact k _ _ S' l (.bl _)
  · cases e3
theorem se_din (hu : X.A.units + 1 < cLine) (ha : SB X a fa) (hb : SB X b fb) (hm : behindInMarks .In b = false := by rfl) : SE X (.Compare a [.In] [b] pos) (fBin gDIn fa fb) := ⟨pe_cmp (pc_dinB hu ha hb) hm⟩
theorem tB_of {f : FE} {σ : L2.St} {H : Hp} {Q : Bool → Hp → Prop} (h : tT X.w X.K (fTst f) σ H Q) : L2.tB (tE X.w X.K f) σ H Q := by
  obtain ⟨g, O, env, x, d, x', S, e, k⟩ := h
  refine ⟨g, O, env, x, _, x', S, fTst_some e, fun v H' S' l r => ?_⟩
  cases r
  exact ⟨d, rfl, k H' S' l⟩
theorem st_din (hu : X.A.units + 1 < cLine) (ha : SB X a fa) (hb : SB X b fb) (hm : behindInMarks .In b = false := by rfl) : ST X (.Compare a [.In] [b] pos) (fTst (fBin gDIn fa fb)) := ⟨PTw (pt_cmp (pc_dinB hu ha hb) hm) fun _ _ _ h => tB_of h⟩
theorem st_dnot (hu : X.A.units + 1 < cLine) (ha : SB X a fa) (hb : SB X b fb) (hm : behindInMarks .NotIn b = false := by rfl) : ST X (.Compare a [.NotIn] [b] pos) (fTst (fBin gDNotIn fa fb)) := ⟨PTw (pt_cmp (pc_dnotB hu ha hb) hm) fun _ _ _ h => tB_of h⟩
/-! ### owned things change -/
/-- d[k] = v: value first, then the dict's name, then the key -/
def sDPut (i : Nat) (fk fv : FE) : FS := fun env x => match fv env x with
  | some (v, x1) => match fk env x1 with
    | some (k, x2) => match env[i]? with
      | some (.ow (.dk kvs)) => match dKey k with
        | some q => if kvs.length < maxLen then some (.nx (env.set i (.ow (.dk (putD dKey kvs k q v)))), x2) else none
        | none => none
      | some (.ow (.dt kvs)) => match dKeyT k with
        | some q => if kvs.length < maxLen then some (.nx (env.set i (.ow (.dt (putD dKeyT kvs k q v)))), x2) else none
        | none => none
      | _ => none
    | none => none
  | none => none
theorem maxLen_lt {n : Nat} (h : n < maxLen) : n < sizeLine := Nat.lt_of_lt_of_le h (maxLen_ok (Nat.le_refl _))
theorem keep_own {ω : World} {K : PySem.W.Frag} {g : FG} {O : Addr → Prop} {σ : L2.St} {H : Hp} {env : FEn} {x : FRow} (S : FSt ω K g O σ H env x) {p : Addr} {o : HO} (hp : O p) : Keep O H (upd H p o) := fun b u n e _ => by
  rw [upd_ne (show b ≠ p from fun z => n (z ▸ hp))]; exact e
theorem ss_dput {i : Nat} {n : Str} {fk fv : FE} {p0 pos' : Pos} (hu : X.A.units + 1 < cLine) (hv : SE X c fv) (hk : SE X b fk) (hs : swapsWith c (some (.Subscript (.Name n p0) b pos')) pos.line X.env = pure false := by rfl)
    (hN : X.N[i]? = some n := by rfl) (hvis : Vis X.env.scope n := by first | exact Or.inl rfl | exact Or.inr (Or.inl rfl) | exact Or.inr (Or.inr rfl)) (hd : (n == ("__debug__" : Str)) = false := by decide)
    (hcd : (n == ("__classdict__" : Str)) = false := by decide) : SS X (.Assign [.Subscript (.Name n p0) b pos'] c pos) (sDPut i fk fv) := by
  refine ⟨PSw (ps_dput hu (pe_var hN hvis hd hcd) hk.out hv.out hs) fun Dn σ H h => ?_⟩
  obtain ⟨g, O, env, x, r, x', S, e, kk⟩ := h
  unfold sDPut at e
  split at e
  · rename_i v x1 e1
    split at e
    · rename_i k x2 e2
      split at e
      · rename_i kvs e3
        split at e
        · rename_i q e4
          split at e
          · rename_i hl
            cases e
            refine ⟨g, O, env, x, v, x1, S, e1, fun y H1 S1 l1 r1 => ?_⟩
            obtain ⟨s, e5, q5⟩ := S1.at e3
            cases q5 with
            | @ow p _ op q6 q7 w =>
              refine ⟨_, e5, ⟨g, O, env, x1, k, x', S1, e2, fun z H2 S2 l2 r2 => ?_⟩⟩
              obtain ⟨s2, e6, q8⟩ := S2.at e3
              rw [e5] at e6
              cases e6
              cases q8 with
              | ow _ _ _ w2 =>
                obtain ⟨vs, hH, hr⟩ := w2
                have ez := dKey_rp e4 r2
                subst ez
                refine ⟨p, _, rfl, DPut.k (k := q) hH (by rw [hr.length]; exact maxLen_lt hl), ?_⟩
                refine kk O _ _ (S2.put e3 e5 True.intro ⟨_, upd_same, ?_⟩)
                have e7 := dKey_ok e4
                subst e7
                exact (hr.put (r1.step S1 l2)).move (keep_own S2 op) .refl
          · cases e
        · cases e
      · rename_i kvs e3
        split at e
        · rename_i q e4
          split at e
          · rename_i hl
            cases e
            refine ⟨g, O, env, x, v, x1, S, e1, fun y H1 S1 l1 r1 => ?_⟩
            obtain ⟨s, e5, q5⟩ := S1.at e3
            cases q5 with
            | @ow p _ op q6 q7 w =>
              refine ⟨_, e5, ⟨g, O, env, x1, k, x', S1, e2, fun z H2 S2 l2 r2 => ?_⟩⟩
              obtain ⟨s2, e6, q8⟩ := S2.at e3
              rw [e5] at e6
              cases e6
              cases q8 with
              | ow _ _ _ w2 =>
                obtain ⟨vs, hH, hr⟩ := w2
                have e7 := dKeyT_ok e4
                subst e7
                obtain ⟨b', xs, rfl, hb, hx⟩ := r2.tupAt
                rw [rp_keys hx] at hb
                refine ⟨p, _, rfl, DPut.t (k := q) hH hb (by rw [hr.length]; exact maxLen_lt hl), ?_⟩
                refine kk O _ _ (S2.put e3 e5 True.intro ⟨_, upd_same, ?_⟩)
                exact (hr.put (r1.step S1 l2)).move (keep_own S2 op) .refl
          · cases e
        · cases e
      · cases e
    · cases e
  · cases e
/-- xs.append(e) -/
def sApp (i : Nat) (f : FE) : FS := fun env x => match f env x with
  | some (d, x1) => match env[i]? with
    | some (.ow (.lst ds)) => if ds.length < maxLen then some (.nx (env.set i (.ow (.lst (ds ++ [d])))), x1) else none
    | _ => none
  | none => none
theorem ss_app {i : Nat} {n : Str} {f : FE} {p0 apos cpos : Pos} (he : SE X e f)
    (hs : swapsWith (.Call (.Attribute (.Name n p0) "append" apos) [e] [] cpos) none pos.line X.env = pure false := by rfl)
    (hbase : attributeBase (.Name n p0) "append" X.env (eval (.Name n p0) X.env) = eval (.Name n p0) X.env := by rfl)
    (hfew : ((backTo cpos (starEach (e :: []) X.env)).all (fun x => !x.1) && (backToKw cpos (keywordEach [] X.env)).all (fun x => x.1.isSome)
      && decide ((e :: []).length + ([] : List Keyword).length + (if ([] : List Keyword).isEmpty then 0 else 1) < 30)) = true := by rfl)
    (hline : (apos.endLine == cpos.line) = true := by rfl) (hss : starEach (e :: []) X.env = (false, eval e X.env) :: starEach [] X.env := by rfl) (hplain : (backTo cpos (starEach [] X.env)).any (·.1) = false := by rfl)
    (hN : X.N[i]? = some n := by rfl) (hvis : Vis X.env.scope n := by first | exact Or.inl rfl | exact Or.inr (Or.inl rfl) | exact Or.inr (Or.inr rfl)) (hd : (n == ("__debug__" : Str)) = false := by decide)
    (hcd : (n == ("__classdict__" : Str)) = false := by decide) : SS X (.Expr (.Call (.Attribute (.Name n p0) "append" apos) [e] [] cpos) pos) (sApp i f) := by
  refine ⟨PSw (ps_expr (pe_bm PySem.F.plainAttrs_list PySem.F.slot_list_append PySem.F.type_list_append mt_append (pe_var hN hvis hd hcd) (pa_cons he.out pa_nil hss) hbase hfew hline hss hplain) hs) fun Dn σ H h => ?_⟩
  obtain ⟨g, O, env, x, r, x', S, e, kk⟩ := h
  unfold sApp at e
  split at e
  · rename_i v x1 e1
    split at e
    · rename_i ds e3
      split at e
      · rename_i hl
        cases e
        obtain ⟨s, e5, q5⟩ := S.at e3
        cases q5 with
        | @ow p _ op q6 q7 w =>
          obtain ⟨vs, hH, hr⟩ := w
          refine ⟨_, e5, .inl ⟨rfl, _, .of hH⟩, ⟨g, O, env, x, v, x', S, e1, fun z H2 S2 l2 r2 => ?_⟩⟩
          have hH2 := l2 p _ q7 hH rfl
          refine ⟨p, vs, z, rfl, rfl, hH2, by rw [hr.length]; exact maxLen_lt hl, ?_⟩
          refine kk O _ _ (S2.put e3 e5 True.intro ⟨_, upd_same, ?_⟩)
          exact ((hr.step S l2).app (.cons r2 .nil)).move (keep_own S2 op) .refl
      · cases e
    · cases e
  · cases e
/-- xs.extend(e), e a list -/
def sExt (i : Nat) (f : FE) : FS := fun env x => match f env x with
  | some (.list es, x1) => match env[i]? with
    | some (.ow (.lst ds)) => if ds.length + es.length ≤ maxLen then some (.nx (env.set i (.ow (.lst (ds ++ es)))), x1) else none
    | _ => none
  | _ => none
end
end RT
namespace RT
open PySem PySem.Spec PyProof.Rows L2
/-! ### ghosts, wiping -/
def FG.add (g : FG) (more : List (V × D)) : FG := { g with gs := more ++ g.gs }
section
variable {ω : World} {K : PySem.W.Frag} {g : FG} {O O' : Addr → Prop} {σ : L2.St} {H H' : Hp} {env : FEn} {x x' : FRow}
theorem FSt.regh {g' : FG} (S : FSt ω K g O σ H env x) (h0 : g'.O0 = g.O0) (h1 : g'.H0 = g.H0) (h2 : g'.R = g.R) (h3 : ∀ p ∈ g'.gs, Rp K O H p.1 p.2) (h4 : g'.T = g.T := by rfl) (h5 : g'.w = g.w := by rfl) (h6 : g'.F = g.F := by rfl) : FSt ω K g' O σ H env x where
  tb := by rw [h4]; exact S.tb
  tk := by rw [h4]; exact S.tk
  nt0 := by rw [h1]; exact S.nt0
  ww := by rw [h5]; exact S.ww
  sub := by rw [h0]; exact S.sub
  new := by rw [h0, h1]; exact S.new
  dom := S.dom
  le := by rw [h1]; intro a o; rw [h2]; exact S.le a o
  row := by rw [h0, h1, h2]; exact fun r e => ⟨(S.row r e).1, (S.row r e).2.1, (S.row r e).2.2.chg h6 h5⟩
  len := S.len
  sl := fun i s e e1 e2 => by
    cases S.sl i s e e1 e2 with
    | no => exact .no _
    | va r => exact .va r
    | ow p q r t => exact .ow p (by rw [h0]; exact q) (by rw [h2]; exact r) t
    | rw e => exact .rw (by rw [h2, h6]; exact e)
    | da p q r t => exact .da p (by rw [h0]; exact q) (by rw [h2]; exact r) (by rw [h5]; exact t)
    | nd p q r t => exact .nd p (by rw [h0]; exact q) (by rw [h2]; exact r) (t.mv rfl (fun _ _ => rfl) (fun _ _ r => r) (fun _ _ r => r) fun _ _ x y z => ⟨x, by rw [h0]; exact y, by rw [h2]; exact z⟩)
    | fn n e r => exact .fn n e r
    | sg n e r zz => exact .sg n e r (by rw [h2, h6]; exact zz)
  dis := S.dis
  din := S.din
  nn := S.nn
  gh := h3
theorem FSt.addg (S : FSt ω K g O σ H env x) (more : List (V × D)) (h : ∀ p ∈ more, Rp K O H p.1 p.2) : FSt ω K (g.add more) O σ H env x :=
  S.regh rfl rfl rfl fun p hp => (List.mem_append.mp hp).elim (h p) (S.gh p)
theorem FSt.unadd {more : List (V × D)} (S : FSt ω K (g.add more) O σ H env x) : FSt ω K g O σ H env x :=
  S.regh rfl rfl rfl fun p hp => S.gh p (List.mem_append_right _ hp)
def wipeE (env : FEn) : List Nat → FEn
  | [] => env
  | v :: vs => (wipeE env vs).set v .no
theorem wipe_get (σ : L2.St) (j : Nat) : ∀ vs : List Nat, (wipe σ vs)[j]? = if j ∈ vs then (σ[j]?).map (fun _ => none) else σ[j]?
  | [] => by simp [wipe]
  | v :: vs => by
    unfold wipe
    rw [List.getElem?_set]
    have ih := wipe_get σ j vs
    have hl := wipe_length σ vs
    by_cases e : v = j
    · subst e
      have hm : v ∈ v :: vs := List.mem_cons_self
      rw [if_pos rfl, if_pos hm, hl]
      by_cases hv : v < σ.length
      · rw [if_pos hv, List.getElem?_eq_getElem hv]; rfl
      · rw [if_neg hv, List.getElem?_eq_none (by omega)]; rfl
    · rw [if_neg e, ih]
      have : (j ∈ v :: vs) ↔ j ∈ vs := by simp [show ¬ j = v from fun z => e z.symm]
      by_cases q : j ∈ vs
      · rw [if_pos q, if_pos (this.mpr q)]
      · rw [if_neg q, if_neg (fun z => q (this.mp z))]
theorem wipe_set {σ : L2.St} {i : Nat} {s : Option V} {vs : List Nat} (h : i ∈ vs) : wipe (σ.set i s) vs = wipe σ vs := by
  apply List.ext_getElem?
  intro j
  rw [wipe_get, wipe_get]
  by_cases q : j ∈ vs
  · rw [if_pos q, if_pos q, List.getElem?_set]
    by_cases e : i = j
    · subst e
      rw [if_pos rfl]
      by_cases hl : i < σ.length
      · rw [if_pos hl, List.getElem?_eq_getElem hl]; rfl
      · rw [if_neg hl, List.getElem?_eq_none (by omega)]
    · rw [if_neg e]
  · rw [if_neg q, if_neg q, List.getElem?_set_ne (fun e => q (by rw [← e]; exact h))]
theorem wipe_wipe (σ : L2.St) (vs : List Nat) : wipe (wipe σ vs) vs = wipe σ vs := by
  apply List.ext_getElem?
  intro j
  rw [wipe_get, wipe_get]
  by_cases q : j ∈ vs
  · rw [if_pos q, if_pos q]; cases σ[j]? <;> rfl
  · rw [if_neg q, if_neg q]
theorem wipeE_len (env : FEn) : ∀ vs : List Nat, (wipeE env vs).length = env.length
  | [] => rfl
  | v :: vs => by unfold wipeE; rw [List.length_set, wipeE_len env vs]
theorem wipeE_get {j : Nat} {e : FSl} : ∀ {vs : List Nat}, (wipeE env vs)[j]? = some e → e = .no ∨ (j ∉ vs ∧ env[j]? = some e)
  | [], h => .inr ⟨by simp, h⟩
  | v :: vs, h => by
    unfold wipeE at h
    rcases set_at h with ⟨e1, e2⟩ | ⟨e1, e2⟩
    · exact .inl e2
    · rcases wipeE_get e2 with q | ⟨q1, q2⟩
      · exact .inl q
      · exact .inr ⟨by simp [q1, show ¬ j = v from fun z => e1 z.symm], q2⟩
theorem FSt.wiped (S : FSt ω K g O σ H env x) (vs : List Nat) : FSt ω K g O (wipe σ vs) H (wipeE env vs) x where
  tb := S.tb
  tk := S.tk
  nt0 := S.nt0
  ww := S.ww
  sub := S.sub
  new := S.new
  dom := S.dom
  le := S.le
  row := S.row
  len := by rw [wipe_length, wipeE_len]; exact S.len
  sl := fun j s e h1 h2 => by
    rcases wipeE_get h2 with rfl | ⟨q1, q2⟩
    · exact .no _
    · rw [wipe_get, if_neg q1] at h1
      exact S.sl j s e h1 q2
  dis := fun i j d d' a b ne h1 h2 h3 h4 => by
    rcases wipeE_get h1 with z | ⟨q1, q2⟩
    · cases z
    · rcases wipeE_get h2 with z | ⟨q3, q4⟩
      · cases z
      · rw [wipe_get, if_neg q1] at h3
        rw [wipe_get, if_neg q3] at h4
        exact S.dis i j d d' a b ne q2 q4 h3 h4
  din := fun i j d d' a b h1 h2 h3 h4 => by
    rcases wipeE_get h1 with z | ⟨q1, q2⟩
    · cases z
    · rcases wipeE_get h2 with z | ⟨q3, q4⟩
      · cases z
      · rw [wipe_get, if_neg q1] at h3
        rw [wipe_get, if_neg q3] at h4
        exact S.din i j d d' a b q2 q4 h3 h4
  nn := fun i j d d' h1 h2 => by
    rcases wipeE_get h1 with z | ⟨q1, q2⟩
    · cases z
    · rcases wipeE_get h2 with z | ⟨q3, q4⟩
      · cases z
      · exact S.nn i j d d' q2 q4
  gh := S.gh
/-- an owned thing that no name holds changes -/
theorem FSt.upd1 (S : FSt ω K g O σ H env x) {p : Addr} {o oo : HO} (ho : H p = some oo) (nc : ¬ IsC oo) (op : O p) (n0 : ¬ g.O0 p) (nr : g.R ≠ some p) (mu : MutC (some o)) (ne : ∀ (j : Nat) d b, env[j]? = some d → isOwn d = true → σ[j]? = some (some (.ref b)) → b ≠ p)
    (nd : ∀ (j : Nat) d b, env[j]? = some (.nd d) → σ[j]? = some (some (.ref b)) → p ≠ b ∧ ¬ Inn H b p) : FSt ω K g O σ (upd H p o) env x := by
  have h0 : g.H0 p = none := by
    rcases S.new p op with z | z
    · exact absurd z n0
    · exact z
  have kp := keep_own (o := o) S op
  have mp := S.dom p op
  refine ⟨S.sub, S.new, fun a ha => ?_, fun c u hR e tn => ?_, fun r e => ?_, S.len, fun j s e' e1 e2 => ?_, S.dis, fun j k e e' b c e1 e2 e3 e4 => ⟨(S.din j k e e' b c e1 e2 e3 e4).1, fun z => (S.din j k e e' b c e1 e2 e3 e4).2 (z.of (upd_ne (Ne.symm (nd j e b e1 e3).1)))⟩, S.nn, fun q hq => (S.gh q hq).move kp .refl, tabs_upd S.tb ho (mut_nt (by rw [← ho]; exact mp)) nc, S.tk, S.nt0, S.ww⟩
  · by_cases z : a = p
    · subst z; rw [upd_same]; exact mu
    · rw [upd_ne z]; exact S.dom a ha
  · have z : c ≠ p := fun z => by rw [z, h0] at e; cases e
    rw [upd_ne z]; exact S.le c u hR e tn
  · obtain ⟨q1, q2, q3⟩ := S.row r e
    exact ⟨q1, q2, q3.updO op (fun z => nr (z ▸ e))⟩
  · cases S.sl j s e' e1 e2 with
    | no => exact .no _
    | va r => exact .va (r.move kp .refl)
    | ow q1 q2 q3 t => exact .ow q1 q2 q3 (t.move (fun u eu _ => by rw [upd_ne (ne j _ _ e2 rfl e1)]; exact eu) kp .refl)
    | rw e => exact .rw e
    | da q1 q2 q3 t => exact .da q1 q2 q3 (t.mv (fun u eu _ => by rw [upd_ne (ne j _ _ e2 rfl e1)]; exact eu) fun _ _ r => r.move kp .refl)
    | nd q1 q2 q3 t => exact .nd q1 q2 q3 (t.updO (Ne.symm (nd j _ _ e2 e1).1) (nd j _ _ e2 e1).2 kp)
    | fn n e r => exact .fn n (kp _ _ n e rfl) fun p hp => (r p hp).move kp .refl
    | sg n e r zz => exact .sg n (kp _ _ n e rfl) (fun p hp => (r p hp).move kp .refl) zz
/-- the wider O of a new thing is forgotten -/
theorem FSt.shrink {H0 : Hp} {x0 : FRow} (S0 : FSt ω K g O σ H0 env x0) (S : FSt ω K g O' σ H env x) (h : ∀ a, O a → O' a) (l0 : Le g H0 H) : FSt ω K g O σ H env x where
  tb := S.tb
  tk := S.tk
  nt0 := S.nt0
  ww := S.ww
  sub := S0.sub
  new := S0.new
  dom := fun a ha => S.dom a (h a ha)
  le := S.le
  row := fun r e => ⟨(S.row r e).1, (S.row r e).2.1, (S.row r e).2.2.sub h⟩
  len := S.len
  sl := fun i s e e1 e2 => by
    have w : Wid O' O H := fun a z => .inl (h a z)
    cases S.sl i s e e1 e2 with
    | no => exact .no _
    | va r => exact .va (r.move (fun _ _ _ e _ => e) w)
    | ow p q r t =>
      cases S0.sl i _ _ e1 e2 with
      | ow p0 _ _ _ => exact .ow p0 q r (t.move (fun _ e _ => e) (fun _ _ _ e _ => e) w)
    | rw e => exact .rw e
    | da p q r t =>
      cases S0.sl i _ _ e1 e2 with
      | da p0 _ _ _ => exact .da p0 q r (t.mv (fun _ e _ => e) fun _ _ r => r.move (fun _ _ _ e _ => e) w)
    | nd p q r t =>
      obtain ⟨p0, _, _, t0⟩ := S0.ndAt e2 e1
      exact .nd p0 q r (t.mv rfl (fun _ _ => rfl) (fun _ _ r => r.move (fun _ _ _ e _ => e) w) (fun _ _ r => r.move (fun _ _ _ e _ => e) w) fun b i x y z => ⟨(t0.inn (i.of (by obtain ⟨o, q, tn⟩ := t0.tk; rw [q]; exact l0 _ o r q tn))).1, y, z⟩)
    | fn n e r => exact .fn (fun z => n (h _ z)) e fun p hp => (r p hp).move (fun _ _ _ e _ => e) w
    | sg n e r zz => exact .sg (fun z => n (h _ z)) e (fun p hp => (r p hp).move (fun _ _ _ e _ => e) w) zz
  dis := S.dis
  din := S.din
  nn := S.nn
  gh := fun p hp => (S.gh p hp).move (fun _ _ _ e _ => e) (fun a z => .inl (h a z))
theorem FSt.notG (S : FSt ω K g O σ H env x) {p : Addr} (h : Gone H p) : ¬ O p := fun z => by
  have d := S.dom p z
  cases q : H p with
  | none => rw [q] at d; exact d
  | some o => exact h.no q (mut_nt (by rw [← q]; exact d))
end
section
variable {X : Cx} {a b c e : Expr} {es : List Expr} {fa fb fc f : FE} {pos : Pos}
def fOfX (f : FX) : FE := fun env x => match f env x with
  | some (.va d, x1) => some (d, x1)
  | some (.ow w, x1) => some (w.d, x1)
  | _ => none
theorem se_ofX {f : FX} (h : SX X e f) : SE X e (fOfX f) := by
  refine ⟨PEw h.out fun σ H Q h => ?_⟩
  obtain ⟨g, O, env, x, d, x', S, e, k⟩ := h
  unfold fOfX at e
  split at e
  · rename_i dd x1 e1
    cases e
    refine ⟨g, O, env, x, _, x', S, e1, fun O' v H' S' l w sub r nw => ?_⟩
    cases r with
    | va r => exact k v H' (S.shrink S' sub l) l (r.move (fun _ _ _ e _ => e) fun a z => .inl (sub a z))
  · rename_i dd x1 e1
    cases e
    refine ⟨g, O, env, x, _, x', S, e1, fun O' v H' S' l w sub r nw => ?_⟩
    obtain ⟨p, rfl, hp⟩ := nw
    have np := S.notG hp
    have wd : Wid O' O H' := fun a z => .inl (sub a z)
    cases r with
    | ow p1 q r t =>
      refine k _ H' (S.shrink S' sub l) l ?_
      cases dd with
      | lst ds => obtain ⟨xs, e, r⟩ := t; exact .lst np e (r.move (fun _ _ _ e _ => e) wd)
      | dk ds => obtain ⟨xs, e, r⟩ := t; exact .dK np (.inl e) (r.move (fun _ _ _ e _ => e) wd)
      | dt ds => obtain ⟨xs, e, r⟩ := t; exact .dT np (.inl e) (r.move (fun _ _ _ e _ => e) wd)
  · cases e
/-! ### targets -/
abbrev FGt := D → FEn → Option FEn
abbrev FGs := List D → FEn → Option FEn
def tG (ω : World) (K : PySem.W.Frag) (vs : List Nat) (f : FGt) : TG := fun v σ H Q => ∃ g O env x d env', FSt ω K g O σ H env x ∧ Rp K O H v d ∧ f d env = some env' ∧ ∀ σ', wipe σ' vs = wipe σ vs → FSt ω K g O σ' H env' x → Q σ' H
def tGs (ω : World) (K : PySem.W.Frag) (vs : List Nat) (f : FGs) : TGs := fun v σ H Q => ∃ g O env x d env', FSt ω K g O σ H env x ∧ RpA K O H v d ∧ f d env = some env' ∧ ∀ σ', wipe σ' vs = wipe σ vs → FSt ω K g O σ' H env' x → Q σ' H
structure SG (X : Cx) (e : Expr) (vs : List Nat) (f : FGt) : Prop where
  out : PG X e (tG X.w X.K vs f)
structure SGs (X : Cx) (e : List Expr) (vs : List Nat) (f : FGs) : Prop where
  out : PGs X e (tGs X.w X.K vs f)
theorem PGw {t t' : TG} (h : PG X e t) (q : ∀ v σ H Q, t' v σ H Q → t v σ H Q) : PG X e t' := ⟨fun pins s σ H v u Q I r z => h.run pins s σ H v u Q I r (q _ _ _ _ z)⟩
theorem PGsw {t t' : TGs} (h : PGs X es t) (q : ∀ v σ H Q, t' v σ H Q → t v σ H Q) : PGs X es t' := ⟨fun pins s σ H v u Q I r z => h.run pins s σ H v u Q I r (q _ _ _ _ z)⟩
def gtName (i : Nat) : FGt := fun d env => some (env.set i (.va d))
theorem sg_name (i : Nat) {n : Str} {vs : List Nat} (hN : X.N.Nodup) (hi : X.N[i]? = some n) (hx : Loc X.env.scope n) (hv : i ∈ vs) (hf : X.fn n = true ∨ X.env.scope.names.lookup n = some .local := by first | exact .inl rfl | exact .inr rfl | assumption) : SG X (.Name n pos) vs (gtName i) := by
  refine ⟨PGw (pg_name hN hi hx hf) fun v σ H Q h => ?_⟩
  obtain ⟨g, O, env, x, d, env', S, r, e, k⟩ := h
  cases e
  exact k _ (wipe_set hv) (S.setv i (.va r) fun d z => by cases z)
def gtNil : FGs := fun ds env => match ds with
  | [] => some env
  | _ => none
def gtCons (f : FGt) (h : FGs) : FGs := fun ds env => match ds with
  | d :: ds => match f d env with
    | some e1 => h ds e1
    | none => none
  | [] => none
theorem sgs_nil {vs : List Nat} : SGs X [] vs gtNil := by
  refine ⟨PGsw pgs_nil fun v σ H Q h => ?_⟩
  obtain ⟨g, O, env, x, d, env', S, r, e, k⟩ := h
  unfold gtNil at e
  split at e
  · cases e
    cases r
    exact ⟨rfl, k _ rfl S⟩
  · cases e
theorem sgs_cons {vs : List Nat} {f : FGt} {h : FGs} (h1 : SG X e vs f) (h2 : SGs X es vs h) (hs : (assignEach (e :: es) X.env).map (·.2) = assign e X.env :: (assignEach es X.env).map (·.2) := by rfl) : SGs X (e :: es) vs (gtCons f h) := by
  refine ⟨PGsw (pgs_cons h1.out h2.out hs) fun v σ H Q h => ?_⟩
  obtain ⟨g, O, env, x, d, env', S, r, e, k⟩ := h
  unfold gtCons at e
  split at e
  · split at e
    · rename_i d ds _ e1 q
      cases r with
      | cons r1 r2 => exact ⟨_, _, rfl, g, O, env, x, d, e1, S, r1, q, fun σ1 w1 S1 => ⟨g, O, e1, x, ds, env', S1, r2, e, fun σ2 w2 S2 => k σ2 (w2.trans w1) S2⟩⟩
    · cases e
  · cases e
def gtTup (n : Nat) (h : FGs) : FGt := fun d env => match d with
  | .tuple ds => if ds.length = n then h ds env else none
  | _ => none
theorem sg_tup {vs : List Nat} {k n : Nat} {h : FGs} (hc : X.calm = true) (h1 : SGs X es vs h) (hn : (assignEach es X.env).length = n := by rfl) (hst : (assignEach es X.env).findIdx? (·.1) = none := by rfl) : SG X (.Tuple es k pos) vs (gtTup n h) := by
  refine ⟨PGw (pg_tup hc h1.out hn hst) fun v σ H Q h => ?_⟩
  obtain ⟨g, O, env, x, d, env', S, r, e, k⟩ := h
  unfold gtTup at e
  split at e
  · rename_i ds
    split at e
    · rename_i hl
      obtain ⟨p, xs, rfl, hp, rx⟩ := r.tupAt
      exact ⟨p, xs, rfl, .of hp, by rw [rx.length]; exact hl, g, O, env, x, ds, env', S, rx, e, k⟩
    · cases e
  · cases e
/-- a, b = e -/
def sUnp (f : FE) (h : FGt) : FS := fun env x => match f env x with
  | some (d, x1) => match h d env with
    | some e1 => some (.nx e1, x1)
    | none => none
  | none => none
theorem ss_unp {tg : Expr} {vs : List Nat} {f : FE} {h : FGt} (he : SE X e f) (hg : SG X tg vs h) (hs : swapsWithSole [tg] e pos.line X.env = pure false := by rfl) (hw : swappedStores [tg] e X.env = pure none := by rfl)
    (h1 : (assignEach [tg] X.env).map (·.2) = [assign tg X.env] := by rfl) : SS X (.Assign [tg] e pos) (sUnp f h) := by
  refine ⟨PSw (ps_asg he.out hg.out hs hw h1) fun Dn σ H h => ?_⟩
  obtain ⟨g, O, env, x, r, x', S, e, k⟩ := h
  unfold sUnp at e
  split at e
  · rename_i d x1 e1
    split at e
    · rename_i env1 e2
      cases e
      exact ⟨g, O, env, x, d, x', S, e1, fun v H1 S1 l1 r1 => ⟨g, O, env, x', d, env1, S1, r1, e2, fun σ' _ S2 => k O σ' H1 S2⟩⟩
    · cases e
  · cases e
/-! ### what is walked -/
def WalksD (ω : World) (K : PySem.W.Frag) (J : It) (g : FG) (ds : List D) : Prop := ∀ O σ H env x i, FSt ω K g O σ H env x →
  (∀ d, ds[i]? = some d → J.go i H ∧ ∀ v H', J.yld i H v H' → Same H H' ∧ Rp K O H' v d) ∧ (i = ds.length → J.stop i H)
def tI (ω : World) (K : PySem.W.Frag) (f : FA) : TI := fun σ H R => ∃ g O env x ds x', FSt ω K g O σ H env x ∧ f env x = some (ds, x') ∧
  ∀ J more H', FSt ω K (g.add more) O σ H' env x' → Le g H H' → WalksD ω K J (g.add more) ds → R J H'
structure SI (X : Cx) (tg e : Expr) (f : FA) : Prop where
  out : PI X tg e (tI X.w X.K f)
def fSeq (f : FE) : FA := fun env x => match f env x with
  | some (.list ds, x1) => some (ds, x1)
  | some (.tuple ds, x1) => some (ds, x1)
  | _ => none
theorem si_seq {tg : Expr} (h : SE X e f) : SI X tg e (fSeq f) := by
  refine ⟨⟨fun pins s σ H R I h2 => ?_⟩⟩
  obtain ⟨g, O, env, x, ds, x', S, e, k⟩ := h2
  unfold fSeq at e
  split at e
  · rename_i ds' x1 e1
    cases e
    refine (pi_list h.out).run pins s σ H R I ⟨g, O, env, x, _, x', S, e1, fun v H1 S1 l1 r1 => ?_⟩
    cases r1 with
    | @lst p xs _ np hp rx =>
      refine ⟨p, rfl, ⟨xs, .of hp⟩, k _ [(.ref p, .list ds)] H1 (S1.addg _ fun q hq => ?_) l1 fun O2 σ2 H2 env2 x2 i S2 => ?_⟩
      · rw [List.mem_singleton] at hq
        subst hq
        exact .lst np hp rx
      · have q := S2.gh (.ref p, .list ds) (by simp [FG.add])
        cases q with
        | @lst _ ys _ np2 hp2 ry =>
          refine ⟨fun d hd => ?_, fun hi => ⟨ys, .of hp2, by rw [ry.length, hi]; exact Nat.le_refl _⟩⟩
          obtain ⟨y, e2, r2⟩ := ry.get hd
          refine ⟨⟨ys, y, .of hp2, e2⟩, fun v H' hy => ?_⟩
          obtain ⟨rfl, hy⟩ := hy
          have e3 := hy ys (.of hp2)
          rw [e2] at e3
          cases e3
          exact ⟨Same.refl _, r2⟩
  · rename_i ds' x1 e1
    cases e
    refine (pi_tup h.out).run pins s σ H R I ⟨g, O, env, x, _, x', S, e1, fun v H1 S1 l1 r1 => ?_⟩
    cases r1 with
    | @tup p xs _ np hp rx =>
      refine ⟨p, rfl, ⟨xs, .of hp⟩, k _ [(.ref p, .tuple ds)] H1 (S1.addg _ fun q hq => ?_) l1 fun O2 σ2 H2 env2 x2 i S2 => ?_⟩
      · rw [List.mem_singleton] at hq
        subst hq
        exact .tup np hp rx
      · have q := S2.gh (.ref p, .tuple ds) (by simp [FG.add])
        cases q with
        | @tup _ ys _ np2 hp2 ry =>
          refine ⟨fun d hd => ?_, fun hi => ⟨ys, .of hp2, by rw [ry.length, hi]; exact Nat.le_refl _⟩⟩
          obtain ⟨y, e2, r2⟩ := ry.get hd
          refine ⟨⟨ys, y, .of hp2, e2⟩, fun v H' hy => ?_⟩
          obtain ⟨rfl, hy⟩ := hy
          have e3 := hy ys (.of hp2)
          rw [e2] at e3
          cases e3
          exact ⟨Same.refl _, r2⟩
  · cases e
def rgD (lo : Int) (n : Nat) : List D := (List.range n).map fun (i : Nat) => D.int (lo + (i : Int))
theorem rgD_len (lo : Int) (n : Nat) : (rgD lo n).length = n := by simp [rgD]
theorem rgD_get {lo : Int} {n i : Nat} {d : D} (h : (rgD lo n)[i]? = some d) : i < n ∧ d = .int (lo + (i : Int)) := by
  unfold rgD at h
  rw [List.getElem?_map] at h
  by_cases hi : i < n
  · rw [List.getElem?_range hi] at h
    exact ⟨hi, (Option.some.inj h).symm⟩
  · rw [List.getElem?_eq_none (by simpa using hi)] at h
    cases h
theorem walks_rg {ω : World} {K : PySem.W.Frag} {g : FG} (lo : Int) (n : Nat) : WalksD ω K (Itr lo n) g (rgD lo n) := fun O σ H env x i S => by
  refine ⟨fun d hd => ?_, fun hi => by rw [rgD_len] at hi; exact Nat.le_of_eq hi.symm⟩
  obtain ⟨hi, rfl⟩ := rgD_get hd
  refine ⟨hi, fun v H' hy => ?_⟩
  obtain ⟨rfl, rfl⟩ := hy
  exact ⟨Same.refl _, .int _⟩
def okRg (i : Int) : Bool := decide (-(2 ^ 62) ≤ i ∧ i < 2 ^ 62)
def fRg1 (f : FE) : FA := fun env x => match f env x with
  | some (.int n, x1) => if okRg n then some (rgD 0 n.toNat, x1) else none
  | _ => none
theorem si_rg1 {tg : Expr} {p : Pos} (hg : Gl X "range") (hm : X.mg "range" = none) (ha : SE X a fa) (hs : starEach [a] X.env = [(false, eval a X.env)] := by rfl) : SI X tg (.Call (.Name "range" p) [a] [] pos) (fRg1 fa) := by
  refine ⟨⟨fun pins s σ H R I h2 => ?_⟩⟩
  obtain ⟨g, O, env, x, ds, x', S, e, k⟩ := h2
  unfold fRg1 at e
  split at e
  · rename_i n x1 e1
    split at e
    · rename_i ok
      cases e
      have ok := of_decide_eq_true ok
      refine (pi_range1 hg hm (pa_cons ha.out pa_nil hs) hs).run pins s σ H R I ⟨g, O, env, x, _, x', S, e1, fun v H1 S1 l1 r1 => ?_⟩
      cases r1
      exact ⟨n, rfl, ok.1, ok.2, k _ [] H1 S1 l1 (walks_rg 0 _)⟩
    · cases e
  · cases e
def fRg2 (f h : FE) : FA := fun env x => match f env x with
  | some (.int m, x1) => match h env x1 with
    | some (.int n, x2) => if okRg m && okRg n then some (rgD m (n - m).toNat, x2) else none
    | _ => none
  | _ => none
/-! ### for -/
def forL (gt : FGt) (b : FS) : List D → FS
  | [], env, x => some (.nx env, x)
  | d :: ds, env, x => match gt d env with
    | none => none
    | some e1 => match b e1 x with
      | some (.nx e2, x2) => forL gt b ds e2 x2
      | some (.ct e2, x2) => forL gt b ds e2 x2
      | some (.bk e2, x2) => some (.nx e2, x2)
      | some (.rt d, x2) => some (.rt d, x2)
      | none => none
def sFor (f : FA) (gt : FGt) (b : FS) : FS := fun env x => match f env x with
  | some (ds, x1) => forL gt b ds env x1
  | none => none
theorem drop_get {α : Type} {l : List α} {i : Nat} {d : α} (h : l[i]? = some d) : l.drop i = d :: l.drop (i + 1) := by
  obtain ⟨hl, e⟩ := List.getElem?_eq_some_iff.mp h
  rw [List.drop_eq_getElem_cons hl, e]
theorem ss_for {tg : Expr} {body : List Stmt} {vs : List Nat} {f : FA} {gt : FGt} {fb : FS} (hp : PassesOwn (model X.prog X.w) X.A X.env X.xe) (hc : X.calm = true) (hi : SI X tg e f) (hg : SG X tg vs gt) (hb : SSs X body fb)
    (hs : ∀ x, foldedSetIterable e X.env x = pure x := by intro _; rfl) : SS X (.For tg e body [] pos) (sFor f gt fb) := by
  refine ⟨PSw (ps_for hp hc hi.out hg.out hb.out hs) fun Dn σ H h => ?_⟩
  obtain ⟨g, O, env, x, r, x', S, e, k⟩ := h
  unfold sFor at e
  split at e
  · rename_i ds x1 e1
    refine ⟨g, O, env, x, ds, x1, S, e1, fun J more H1 S1 l1 wk => ?_⟩
    refine ⟨fun i m σ H => m = ds.length - i ∧ i ≤ ds.length ∧ ∃ O env x, FSt X.w X.K (g.add more) O σ H env x ∧ forL gt fb (ds.drop i) env x = some (r, x'), ⟨_, rfl, Nat.zero_le _, O, env, x1, S1, e⟩, fun i m σ H hW => ?_⟩
    obtain ⟨rfl, hil, O, env, x, S, e⟩ := hW
    obtain ⟨wgo, wst⟩ := wk O σ H env x i S
    by_cases hlt : i < ds.length
    · have hd : ds[i]? = some ds[i] := List.getElem?_eq_getElem hlt
      obtain ⟨go, yl⟩ := wgo _ hd
      rw [drop_get hd] at e
      refine .inr ⟨go, fun σ' H' => i + 1 ≤ ds.length ∧ ∃ O env x, FSt X.w X.K (g.add more) O σ' H' env x ∧ forL gt fb (ds.drop (i + 1)) env x = some (r, x'), fun σ' H' hN => ⟨ds.length - (i + 1), by omega, rfl, hN.1, hN.2⟩, fun v H' hy => ?_⟩
      obtain ⟨sm, rv⟩ := yl v H' hy
      unfold forL at e
      split at e
      · cases e
      · rename_i env1 e2
        refine ⟨g.add more, O, env, x, ds[i], env1, S.same sm, rv, e2, fun σ1 _ S2 => ?_⟩
        split at e
        · rename_i env2 x2 e3
          exact ⟨g.add more, O, env1, x, _, x2, S2, e3, fun O' σ' H' S' => ⟨hlt, O', env2, x2, S', e⟩⟩
        · rename_i env2 x2 e3
          exact ⟨g.add more, O, env1, x, _, x2, S2, e3, fun O' σ' H' S' => ⟨hlt, O', env2, x2, S', e⟩⟩
        · rename_i env2 x2 e3
          cases e
          exact ⟨g.add more, O, env1, x, _, x', S2, e3, fun O' σ' H' S' => k O' σ' H' S'.unadd⟩
        · rename_i d x2 e3
          cases e
          exact ⟨g.add more, O, env1, x, _, x', S2, e3, fun O' σ' H' v env' S' r' => k O' σ' H' v env' S'.unadd r'⟩
        · cases e
    · have hi : i = ds.length := by omega
      rw [hi, List.drop_length] at e
      unfold forL at e
      cases e
      exact .inl ⟨wst hi, k O σ H S.unadd⟩
  · cases e
/-! ### while -/
def whL (t : FT) (b : FS) : Nat → FS
  | 0, _, _ => none
  | n + 1, env, x => match t env x with
    | some (true, x1) => match b env x1 with
      | some (.nx e2, x2) => whL t b n e2 x2
      | some (.ct e2, x2) => whL t b n e2 x2
      | some (.bk e2, x2) => some (.nx e2, x2)
      | some (.rt d, x2) => some (.rt d, x2)
      | none => none
    | some (false, x1) => some (.nx env, x1)
    | none => none
theorem ss_while {body : List Stmt} {t : FT} {fb : FS} (n : Nat) (hp : PassesOwn (model X.prog X.w) X.A X.env X.xe) (ht : ST X c t) (hb : SSs X body fb) : SS X (.While c body [] pos) (whL t fb n) := by
  refine ⟨PSw (ps_while hp ht.out hb.out) fun Dn σ H h => ?_⟩
  obtain ⟨g, O, env, x, r, x', S, e, k⟩ := h
  refine ⟨fun m σ H => ∃ O env x, FSt X.w X.K g O σ H env x ∧ whL t fb m env x = some (r, x'), ⟨n, O, env, x, S, e⟩, fun m σ H hW => ?_⟩
  obtain ⟨O, env, x, S, e⟩ := hW
  cases m with
  | zero => unfold whL at e; cases e
  | succ m =>
    unfold whL at e
    split at e
    · rename_i x1 e1
      refine ⟨g, O, env, x, _, x1, S, e1, fun H1 S1 l1 => ?_⟩
      refine iteT ?_
      refine ⟨fun σ' H' => ∃ O env x, FSt X.w X.K g O σ' H' env x ∧ whL t fb m env x = some (r, x'), fun σ' H' hN => ⟨m, Nat.lt_succ_self m, hN⟩, ?_⟩
      split at e
      · rename_i env2 x2 e3
        exact ⟨g, O, env, x1, _, x2, S1, e3, fun O' σ' H' S' => ⟨O', env2, x2, S', e⟩⟩
      · rename_i env2 x2 e3
        exact ⟨g, O, env, x1, _, x2, S1, e3, fun O' σ' H' S' => ⟨O', env2, x2, S', e⟩⟩
      · rename_i env2 x2 e3
        cases e
        exact ⟨g, O, env, x1, _, x', S1, e3, fun O' σ' H' S' => k O' σ' H' S'⟩
      · rename_i d x2 e3
        cases e
        exact ⟨g, O, env, x1, _, x', S1, e3, fun O' σ' H' v env' S' r' => k O' σ' H' v env' S' r'⟩
      · cases e
    · rename_i x1 e1
      cases e
      refine ⟨g, O, env, x, _, x', S, e1, fun H1 S1 l1 => ?_⟩
      refine iteF ?_
      exact k O σ H1 S1
    · cases e
/-! ### comprehensions -/
def compL (gt : FGt) (t : FT) (fe : FE) (env : FEn) : List D → FRow → Option (List D × FRow)
  | [], x => some ([], x)
  | d :: ds, x => match gt d env with
    | none => none
    | some e1 => match t e1 x with
      | some (true, x1) => match fe e1 x1 with
        | some (r, x2) => match compL gt t fe env ds x2 with
          | some (rs, x3) => some (r :: rs, x3)
          | none => none
        | none => none
      | some (false, x1) => compL gt t fe env ds x1
      | none => none
def xLc (f : FA) (gt : FGt) (t : FT) (fe : FE) (vs : List Nat) : FX := fun env x => match f env x with
  | some (ds, x1) => match compL gt t fe (wipeE env vs) ds x1 with
    | some (rs, x2) => if rs.length < maxLen then some (.ow (.lst rs), x2) else none
    | none => none
  | none => none
theorem lc_read {ω : World} {K : PySem.W.Frag} {f : FA} {gt : FGt} {t : FT} {fe : FE} {vs : List Nat} {σ : L2.St} {H : Hp} {Q : VK} (h : tX ω K (xLc f gt t fe vs) σ H Q) : tLc (tI ω K f) (tG ω K vs gt) (tT ω K t) (tE ω K fe) vs σ H Q := by
  obtain ⟨g, O, env, x, sl, x', S, e, k⟩ := h
  unfold xLc at e
  split at e
  · rename_i ds x1 e1
    split at e
    · rename_i rs x2 e2
      split at e
      · rename_i hl
        cases e
        refine ⟨g, O, env, x, ds, x1, S, e1, fun J more H1 S1 l1 wk p hp => ?_⟩
        have n1 := S1.newp hp
        have hp0 : Gone H p := Le.gone l1 (.of hp) S1.unadd
        have hne : ∀ (j : Nat) d b, env[j]? = some d → isOwn d = true → σ[j]? = some (some (.ref b)) → b ≠ p := fun j d b h1 h0 h2 => own_ne2 S1 (.of hp) h1 h0 h2
        refine ⟨fun i m H2 => m = ds.length - i ∧ i ≤ ds.length ∧ Le g H H2 ∧ ∃ x acc dn rest, FSt ω K (g.add more) (oAdd O p) σ H2 env x ∧ H2 p = some (.lst acc) ∧ RpA K (oAdd O p) H2 acc dn ∧ compL gt t fe (wipeE env vs) (ds.drop i) x = some (rest, x') ∧ dn ++ rest = rs,
          ⟨_, rfl, Nat.zero_le _, l1.trans (.of (same_upd hp)), x1, [], [], rs, S1.own hp True.intro, upd_same, .nil, e2, rfl⟩, fun i m H2 hW => ?_⟩
        obtain ⟨rfl, hil, lH, x, acc, dn, rest, S2, hacc, racc, e, er⟩ := hW
        obtain ⟨wgo, wst⟩ := wk _ σ H2 env x i S2
        by_cases hlt : i < ds.length
        · have hd : ds[i]? = some ds[i] := List.getElem?_eq_getElem hlt
          obtain ⟨go, yl⟩ := wgo _ hd
          rw [drop_get hd] at e
          refine .inr ⟨go, fun H2 => i + 1 ≤ ds.length ∧ Le g H H2 ∧ ∃ x acc dn rest, FSt ω K (g.add more) (oAdd O p) σ H2 env x ∧ H2 p = some (.lst acc) ∧ RpA K (oAdd O p) H2 acc dn ∧ compL gt t fe (wipeE env vs) (ds.drop (i + 1)) x = some (rest, x') ∧ dn ++ rest = rs,
            fun H' hN => ⟨ds.length - (i + 1), by omega, rfl, hN.1, hN.2⟩, fun v H3 hy => ?_⟩
          obtain ⟨sm, rv⟩ := yl v H3 hy
          unfold compL at e
          split at e
          · cases e
          · rename_i env1 e3
            have S3 := S2.same sm
            refine ⟨g.add more, oAdd O p, wipeE env vs, x, ds[i], env1, S3.wiped vs, rv, e3, fun σ1 w1 S4 => ⟨w1.trans (wipe_wipe σ vs), ?_⟩⟩
            split at e
            · rename_i xb e4
              split at e
              · rename_i r x3 e5
                split at e
                · rename_i rs' x4 e6
                  cases e
                  refine ⟨g.add more, oAdd O p, env1, x, _, xb, S4, e4, fun H5 S5 l5 => ?_⟩
                  refine iteT ?_
                  refine ⟨g.add more, oAdd O p, env1, xb, r, x3, S5, e5, fun y H6 S6 l6 r6 => ?_⟩
                  have l7 : Le (g.add more) H2 H6 := (Le.of sm).trans (l5.trans l6)
                  have S7 := S2.step l7 S6.tb fun r hr => (S6.row r hr).2.2
                  have hacc' := l7 p _ n1.2 hacc rfl
                  have ll : acc.length < maxLen := by
                    have := racc.length
                    have h2 : (dn ++ r :: rs').length = rs.length := by rw [er]
                    rw [List.length_append, List.length_cons] at h2
                    omega
                  refine ⟨acc, hacc', maxLen_lt ll, hlt, ?_, x3, acc ++ [y], dn ++ [r], rs', S7.upd1 hacc' notC_lst (.inr rfl) n1.1 n1.2 True.intro hne (fun j d b h1 h2 => own_nd S (lH.trans l7) hp0 h1 h2), upd_same, ?_, e6, by rw [List.append_assoc]; exact er⟩
                  · intro c u hR e tn
                    have z : c ≠ p := fun z => by rw [z] at e; exact hp0.no e tn
                    rw [upd_ne z]
                    exact l7 c u hR (lH c u hR e tn) tn
                  · exact ((racc.step S2 l7).app (.cons r6 .nil)).move (keep_own S7 (.inr rfl)) .refl
                · cases e
              · cases e
            · rename_i xb e4
              refine ⟨g.add more, oAdd O p, env1, x, _, xb, S4, e4, fun H5 S5 l5 => ?_⟩
              refine iteF ?_
              have l7 : Le (g.add more) H2 H5 := (Le.of sm).trans l5
              have S7 := S2.step l7 S5.tb fun r hr => (S5.row r hr).2.2
              exact ⟨hlt, fun c u hR e tn => l7 c u hR (lH c u hR e tn) tn, xb, acc, dn, rest, S7, l7 p _ n1.2 hacc rfl, racc.step S2 l7, e, er⟩
            · cases e
        · have hi : i = ds.length := by omega
          rw [hi, List.drop_length] at e
          unfold compL at e
          cases e
          rw [List.append_nil] at er
          subst er
          refine .inl ⟨wst hi, k (oAdd O p) _ H2 S2.unadd lH (fun a z => z.elim .inl fun e => .inr (e ▸ hp0)) (fun a z => .inl z) (.ow (.inr rfl) n1.1 n1.2 ⟨acc, hacc, racc⟩) ⟨p, rfl, hp0⟩⟩
      · cases e
    · cases e
  · cases e
structure STs (X : Cx) (es : List Expr) (f : FT) : Prop where
  out : PTs X es (tT X.w X.K f)
theorem PTsw {es : List Expr} {t t' : TT} (h : PTs X es t) (q : ∀ σ H Q, t' σ H Q → t σ H Q) : PTs X es t' := ⟨fun pins s σ H Q I z => h.run pins s σ H Q I (q _ _ _ z)⟩
def tYesF : FT := fun _ x => some (true, x)
theorem sts_nil : STs X [] tYesF := ⟨PTsw pts_nil fun σ H Q h => by
  obtain ⟨g, O, env, x, d, x', S, e, k⟩ := h
  cases e
  exact k H S (Le.refl _ _)⟩
theorem sts_one {t : FT} (h : ST X c t) : STs X [c] t := ⟨pts_one h.out⟩
theorem sx_lc {elt tg iter : Expr} {ifs : List Expr} {scope : Scope} {own : List (Str × Nat)} {f : FA} {gt : FGt} {t : FT} {fe : FE} (hc : X.calm = true) (hN : X.N.Nodup) (hi : SI X tg iter f) (ok : BlkOk X.N X.env.scope scope own)
    (hg : ∀ (s : Shared) (H : Hp) (C : Addr) (cl : List (Str × Addr)) (fp : List Addr), SG (X.blk s H scope (compEnvC scope cl C X.env) fp) tg (own.map (·.2)) gt)
    (ht : ∀ (s : Shared) (H : Hp) (C : Addr) (cl : List (Str × Addr)) (fp : List Addr), STs (X.blk s H scope (compEnvC scope cl C X.env) fp) ifs t)
    (he : ∀ (s : Shared) (H : Hp) (C : Addr) (cl : List (Str × Addr)) (fp : List Addr), SE (X.blk s H scope (compEnvC scope cl C X.env) fp) elt fe) (hs : ∀ x, foldedSetIterable iter X.env x = pure x := by intro _; rfl) :
    SX X (.ListComp elt [⟨tg, iter, ifs, 0⟩] scope pos) (xLc f gt t fe (own.map (·.2))) :=
  ⟨PEw (pe_lc hc hN hi.out ok (fun s H C cl fp => (show PG _ tg (tG X.w X.K (own.map (·.2)) gt) from (hg s H C cl fp).out)) (fun s H C cl fp => (show PTs _ ifs (tT X.w X.K t) from (ht s H C cl fp).out)) (fun s H C cl fp => (show PE _ elt (tE X.w X.K fe) from (he s H C cl fp).out)) hs) fun σ H Q h => lc_read h⟩
theorem ss_setLc {i : Nat} {y : Str} {py : Pos} {elt tg iter : Expr} {ifs : List Expr} {scope : Scope} {own : List (Str × Nat)} {cpos : Pos} {f : FA} {gt : FGt} {t : FT} {fe : FE} (hc : X.calm = true) (hN : X.N.Nodup) (hy : X.N[i]? = some y) (hyl : X.env.scope.names.lookup y = some .local)
    (hsw : swapsWith (.ListComp elt [⟨tg, iter, ifs, 0⟩] scope cpos) (some (.Name y py)) pos.line X.env = pure true) (hi : SI X tg iter f) (ok : BlkOk X.N X.env.scope scope own)
    (hg : ∀ (s : Shared) (H : Hp) (C : Addr) (cl : List (Str × Addr)) (fp : List Addr), SG (X.blk s H scope (compEnvC scope cl C X.env) fp) tg (own.map (·.2)) gt)
    (ht : ∀ (s : Shared) (H : Hp) (C : Addr) (cl : List (Str × Addr)) (fp : List Addr), STs (X.blk s H scope (compEnvC scope cl C X.env) fp) ifs t)
    (he : ∀ (s : Shared) (H : Hp) (C : Addr) (cl : List (Str × Addr)) (fp : List Addr), SE (X.blk s H scope (compEnvC scope cl C X.env) fp) elt fe) (hs : ∀ x, foldedSetIterable iter X.env x = pure x := by intro _; rfl)
    (tr : FX → FX) (htr : tr = id ∨ tr = fun f => xVal (fOfX f)) : SS X (.Assign [.Name y py] (.ListComp elt [⟨tg, iter, ifs, 0⟩] scope cpos) pos) (sSet i (tr (xLc f gt t fe (own.map (·.2))))) := by
  have main : ∀ fx : FX, (∀ σ H Q, tX X.w X.K fx σ H Q → tLc (tI X.w X.K f) (tG X.w X.K (own.map (·.2)) gt) (tT X.w X.K t) (tE X.w X.K fe) (own.map (·.2)) σ H Q) → SS X (.Assign [.Name y py] (.ListComp elt [⟨tg, iter, ifs, 0⟩] scope cpos) pos) (sSet i fx) := fun fx hfx => by
    refine ⟨PSw (ps_setLc hc hN hy hyl hsw hi.out ok (fun s H C cl fp => (show PG _ tg (tG X.w X.K (own.map (·.2)) gt) from (hg s H C cl fp).out)) (fun s H C cl fp => (show PTs _ ifs (tT X.w X.K t) from (ht s H C cl fp).out)) (fun s H C cl fp => (show PE _ elt (tE X.w X.K fe) from (he s H C cl fp).out)) hs) fun Dn σ H h => ?_⟩
    obtain ⟨g, O, env, x, r, x', S, e, k⟩ := h
    unfold sSet at e
    split at e
    · rename_i sl x1 e1
      cases e
      exact hfx σ H _ ⟨g, O, env, x, sl, x', S, e1, fun O' v H' S' l w sub r nw => k O' _ H' (S'.setv i r (fun d z => by
        obtain ⟨p, e2, hp⟩ := nw.ow d z
        exact ⟨p, e2, fun j d' b h1 h2 => own_ne S hp h1 h2⟩) nw.nn fun d z p ep j d' b h1 h2 => by
        obtain ⟨q, e2, hp⟩ := nw.ow d z
        rw [ep] at e2; cases e2
        exact own_nd S l hp h1 h2)⟩
    · cases e
  rcases htr with rfl | rfl
  · exact main _ fun σ H Q h => lc_read h
  · refine main _ fun σ H Q h => ?_
    obtain ⟨g, O, env, x, sl, x', S, e, k⟩ := h
    change (match fOfX (xLc f gt t fe (own.map (·.2))) env x with
      | some (d, x1) => some (FSl.va d, x1)
      | none => none) = some (sl, x') at e
    split at e
    · rename_i d x1 e1
      cases e
      unfold fOfX at e1
      split at e1
      · rename_i dd x1 e2
        unfold xLc at e2
        split at e2
        · split at e2
          · split at e2
            · cases e2
            · cases e2
          · cases e2
        · cases e2
      · rename_i dd x1 e2
        cases e1
        refine lc_read ⟨g, O, env, x, _, x', S, e2, fun O' v H' S' l w sub r nw => ?_⟩
        obtain ⟨p, rfl, hp⟩ := nw
        have np := S.notG hp
        have wd : Wid O' O H' := fun a z => .inl (sub a z)
        cases r with
        | ow p1 q r t =>
          refine k O _ H' (S.shrink S' sub l) l .refl (fun _ h => h) (.va ?_) True.intro
          cases dd with
          | lst ds => obtain ⟨xs, e, r⟩ := t; exact .lst np e (r.move (fun _ _ _ e _ => e) wd)
          | dk ds => obtain ⟨xs, e, r⟩ := t; exact .dK np (.inl e) (r.move (fun _ _ _ e _ => e) wd)
          | dt ds => obtain ⟨xs, e, r⟩ := t; exact .dT np (.inl e) (r.move (fun _ _ _ e _ => e) wd)
      · cases e1
    · cases e
end
end RT
namespace RT
open PySem PySem.Spec PyProof.Rows L2
/-! ### what defs promise -/
def spF (K : PySem.W.Frag) (m : List D → Option D) : Sp := fun vs H Q _ => ∃ T O ds d, TOK K T ∧ LamX.Tabs T H ∧ (∀ a, O a → MutC (H a)) ∧ RpA K O H vs ds ∧ m ds = some d ∧ ∀ v H', SameT T H H' → Rp K O H' v d → Q v H'
def spR (K : PySem.W.Frag) (m : List D → FRow → Option (D × FRow)) : Sp := fun vs H Q _ => ∃ T O r vs' ds x d x', TOK K T ∧ LamX.Tabs T H ∧ (∀ a, O a → MutC (H a)) ∧ O r ∧ vs = .ref r :: vs' ∧ RowAt K O H r x ∧ RpA K O H vs' ds ∧ m ds x = some (d, x') ∧
  ∀ v H', (∀ a o, a ≠ r → H a = some o → isNT o = true → H' a = some o) → LamX.Tabs T H' → RowAt K O H' r x' → Rp K O H' v d → Q v H'
def startE (n : Nat) (ds : List D) : FEn := ds.map FSl.va ++ List.replicate (n - ds.length) FSl.no
def row0 : FRow := ⟨[], 0, 0, 0⟩
def mkF (n k : Nat) (body : FS) : List D → Option D := fun ds => if ds.length = k then match body (startE n ds) row0 with
  | some (.rt d, _) => some d
  | some (.nx _, _) => some .none
  | _ => none
  else none
def mkR (n k : Nat) (body : FS) : List D → FRow → Option (D × FRow) := fun ds x => if ds.length = k then match body (.rw :: startE n ds) x with
  | some (.rt d, x') => some (d, x')
  | some (.nx _, x') => some (.none, x')
  | _ => none
  else none
section
variable {P : Program} {ω : World} {K : PySem.W.Frag} {mg : Str → Option Value} {base : Heap}
theorem vas_at {K : PySem.W.Frag} {g : FG} {O : Addr → Prop} {H : Hp} {m : Nat} : ∀ {vs : List V} {ds : List D}, RpA K O H vs ds → ∀ (i : Nat) s e, (vs.map some ++ List.replicate m none)[i]? = some s → (ds.map FSl.va ++ List.replicate m FSl.no)[i]? = some e → SlOk K g O H s e
  | _, _, .nil, i, s, e, h1, h2 => by
    rw [List.map_nil, List.nil_append] at h1 h2
    have := (List.mem_replicate.mp (List.mem_of_getElem? h2)).2
    subst this
    exact .no _
  | _, _, .cons a b, 0, s, e, h1, h2 => by
    have e1 := Option.some.inj h1
    have e2 := Option.some.inj h2
    subst e1
    subst e2
    exact .va a
  | _, _, .cons a b, i + 1, s, e, h1, h2 => vas_at b i s e (by simpa using h1) (by simpa using h2)
theorem no_ow {m i : Nat} {w : OwD} : ∀ {ds : List D}, (ds.map FSl.va ++ List.replicate m FSl.no)[i]? ≠ some (.ow w) := fun {ds} h => by
  have h := List.mem_of_getElem? h
  rcases List.mem_append.mp h with h | h
  · obtain ⟨d, _, e⟩ := List.mem_map.mp h
    cases e
  · have := (List.mem_replicate.mp h).2
    cases this
theorem no_nd {m i : Nat} {w : OwD} : ∀ {ds : List D}, (ds.map FSl.va ++ List.replicate m FSl.no)[i]? ≠ some (.nd w) := fun {ds} h => by
  have h := List.mem_of_getElem? h
  rcases List.mem_append.mp h with h | h
  · obtain ⟨d, _, e⟩ := List.mem_map.mp h
    cases e
  · have := (List.mem_replicate.mp h).2
    cases this
theorem ok_fn {x qual : Str} {st : Stmt} {f : Addr} {fd : FuncData} {N ps : List Str} {k : Nat} {body : FS} (F : Fun K x qual st f fd) (S : FnScope N ps (defScope st))
    (h : ∀ (cdv : Value) (A : Around) (outer : List Env) (s : Shared) (H : Hp) (E : XK), Room k (A.deeper (envOfC qual (defScope st) s.heap.objs.size f cdv)) → SSs (cxOf CX0 P ω K mg base N qual (defScope st) f cdv A outer s H E).nox (defBody st) body) :
    FnOk P ω K mg base CX0 (k + 1) f fd ps (spF K (mkF N.length ps.length body)) := by
  refine F.ok S (fun vs H Q E h => ?_) (fun cdv A outer s H vs Q E hr hsp => ⟨tS ω K body, (h cdv A outer s H E hr).out, ?_⟩)
  · obtain ⟨T, O, ds, d, _, _, _, r, e, _⟩ := h
    unfold mkF at e
    split at e
    · rename_i hl
      rw [r.length, hl]
    · cases e
  · obtain ⟨T, O, ds, d, tk, tb, dom, r, e, q⟩ := hsp
    unfold mkF at e
    split at e
    · rename_i hl
      have S0 : FSt ω K ⟨O, noT H, none, [], T, ω, none⟩ O (L2.start N vs) H (startE N.length ds) row0 := by
        refine ⟨fun _ h => h, fun _ h => .inl h, dom, (fun a o _ e _ => (noT_some e).1), fun r e => (by cases e), ?_, fun i s e h1 h2 => ?_, fun i j d d' a b ne h1 h2 => absurd h1 no_ow, fun i j d d' a b h1 => absurd h1 no_nd, fun i j d d' h1 => absurd h1 no_nd, fun p hp => (by cases hp), tb, tk, fun a o e => (noT_some e).2, rfl⟩
        · unfold L2.start startE
          rw [List.length_append, List.length_append, List.length_map, List.length_map, List.length_replicate, List.length_replicate, r.length]
        · unfold L2.start at h1
          unfold startE at h2
          rw [r.length] at h1
          exact vas_at r i s e h1 h2
      have same : ∀ {O' : Addr → Prop} {σ' : L2.St} {H' : Hp} {env' : FEn} {x' : FRow}, FSt ω K ⟨O, noT H, none, [], T, ω, none⟩ O' σ' H' env' x' → SameT T H H' := fun S' => ⟨fun a o e t => S'.le a o (fun z => by cases z) (noT_of e t) t, S'.tb⟩
      split at e
      · rename_i d' x' e1
        cases e
        exact ⟨_, O, _, row0, _, _, S0, e1, fun O' σ' H' v env' S' rp => q v H' (same S') (rp.move (fun _ _ _ e _ => e) fun a z => .inl (S'.sub a z))⟩
      · rename_i d' x' e1
        cases e
        exact ⟨_, O, _, row0, _, _, S0, e1, fun O' σ' H' S' => q _ H' (same S') .non⟩
      · cases e
    · cases e
theorem ok_fnR {x qual : Str} {st : Stmt} {f : Addr} {fd : FuncData} {N ps : List Str} {k : Nat} {body : FS} (F : Fun K x qual st f fd) (S : FnScope N ps (defScope st)) (h0 : 0 < N.length) (h1 : 0 < ps.length)
    (h : ∀ (cdv : Value) (A : Around) (outer : List Env) (s : Shared) (H : Hp) (E : XK), Room k (A.deeper (envOfC qual (defScope st) s.heap.objs.size f cdv)) → SSs (cxOf CX0 P ω K mg base N qual (defScope st) f cdv A outer s H E).nox (defBody st) body) :
    FnOk P ω K mg base CX0 (k + 1) f fd ps (spR K (mkR (N.length - 1) (ps.length - 1) body)) := by
  refine F.ok S (fun vs H Q E h => ?_) (fun cdv A outer s H vs Q E hr hsp => ⟨tS ω K body, (h cdv A outer s H E hr).out, ?_⟩)
  · obtain ⟨T, O, r, vs', ds, x, d, x', _, _, _, _, rfl, _, r, e, _⟩ := h
    unfold mkR at e
    split at e
    · rename_i hl
      rw [List.length_cons, r.length, hl]
      omega
    · cases e
  · obtain ⟨T, O, ra, vs', ds, x, d, x', tk, tb, dom, ro, rfl, rat, r, e, q⟩ := hsp
    unfold mkR at e
    split at e
    · rename_i hl
      have hne : noT H ra ≠ none := by
        obtain ⟨a0, e, _⟩ := rat
        rw [noT_of e rfl]
        exact fun z => by cases z
      have S0 : FSt ω K ⟨O, noT H, some ra, [], T, ω, none⟩ O (L2.start N (.ref ra :: vs')) H (.rw :: startE (N.length - 1) ds) x := by
        have hnd : ∀ {i : Nat} {w : OwD}, (FSl.rw :: startE (N.length - 1) ds)[i]? ≠ some (.nd w) := fun {i w} h1 => by
          unfold startE at h1
          cases i with
          | zero => have e1 := Option.some.inj h1; cases e1
          | succ i => exact absurd (show (ds.map FSl.va ++ List.replicate (N.length - 1 - ds.length) FSl.no)[i]? = _ by simpa using h1) no_nd
        refine ⟨fun _ h => h, fun _ h => .inl h, dom, (fun a o _ e _ => (noT_some e).1), fun r e => (by cases e; exact ⟨ro, hne, .of rat rfl⟩), ?_, fun i s e h1 h2 => ?_, fun i j d d' a b ne h1 h2 => ?_, fun i j d d' a b h1 => absurd h1 hnd, fun i j d d' h1 => absurd h1 hnd, fun p hp => (by cases hp), tb, tk, fun a o e => (noT_some e).2, rfl⟩
        · unfold L2.start startE
          simp only [List.length_append, List.length_cons, List.length_map, List.length_replicate, r.length]
          omega
        · unfold L2.start at h1
          unfold startE at h2
          cases i with
          | zero =>
            have e1 := Option.some.inj h1
            have e2 := Option.some.inj h2
            subst e1
            subst e2
            exact .rw ⟨rfl, rfl⟩
          | succ i =>
            have e3 : N.length - (V.ref ra :: vs').length = N.length - 1 - ds.length := by
              rw [List.length_cons, r.length]
              omega
            rw [e3] at h1
            exact vas_at r i s e (by simpa using h1) (by simpa using h2)
        · unfold startE at h1
          cases i with
          | zero => have e1 := Option.some.inj h1; cases e1
          | succ i => exact absurd (show (ds.map FSl.va ++ List.replicate (N.length - 1 - ds.length) FSl.no)[i]? = _ by simpa using h1) no_ow
      have same : ∀ {O' : Addr → Prop} {σ' : L2.St} {H' : Hp} {env' : FEn} {x' : FRow}, FSt ω K ⟨O, noT H, some ra, [], T, ω, none⟩ O' σ' H' env' x' → (∀ a o, a ≠ ra → H a = some o → isNT o = true → H' a = some o) := fun S' a o n e t => S'.le a o (fun z => n (Option.some.inj z).symm) (noT_of e t) t
      split at e
      · rename_i d' x' e1
        cases e
        exact ⟨_, O, _, x, _, _, S0, e1, fun O' σ' H' v env' S' rp => q v H' (same S') S'.tb (((S'.row ra rfl).2.2.sub S'.sub).row rfl) (rp.move (fun _ _ _ e _ => e) fun a z => .inl (S'.sub a z))⟩
      · rename_i d' x' e1
        cases e
        exact ⟨_, O, _, x, _, _, S0, e1, fun O' σ' H' S' => q _ H' (same S') S'.tb (((S'.row ra rfl).2.2.sub S'.sub).row rfl) .non⟩
      · cases e
    · cases e
/-- a def that may be called -/
structure Callee (P : Program) (ω : World) (K : PySem.W.Frag) (mg : Str → Option Value) (base : Heap) (k : Nat) (n : Str) (sp : Sp) : Prop where
  ex : ∃ (f : Addr) (fd : FuncData) (ps : List Str), FnOk P ω K mg base CX0 k f fd ps sp ∧ mg n = some (.ref f) ∧ PySem.W.keepIn K (.ref f) = true ∧ Binds K fd ps []
theorem Callee.mono {k j : Nat} {n : Str} {sp : Sp} (c : Callee P ω K mg base k n sp) (h : k ≤ j) : Callee P ω K mg base j n sp := by
  obtain ⟨f, fd, ps, a, b, c, d⟩ := c.ex
  exact ⟨f, fd, ps, a.mono h, b, c, d⟩
end
section
variable {X : Cx} {a b c e : Expr} {es : List Expr} {fa fb fc f : FE} {pos : Pos}
def fCall (m : List D → Option D) (fa : FA) : FE := fun env x => match fa env x with
  | some (ds, x1) => match m ds with
    | some d => some (d, x1)
    | none => none
  | none => none
theorem se_call {k : Nat} {n : Str} {p : Pos} {m : List D → Option D} {fa : FA} (c : Callee X.prog X.w X.K X.mg X.base k n (spF X.K m)) (hr : Room k X.A) (hg : Gl X n) (ha : SA X (e :: es) fa) (hdb : (n == ("__debug__" : Str)) = false := by decide)
    (he : starEach (e :: es) X.env = (false, eval e X.env) :: starEach es X.env := by rfl) (hpl : (backTo pos (starEach es X.env)).any (·.1) = false := by rfl) : SE X (.Call (.Name n p) (e :: es) [] pos) (fCall m fa) := by
  obtain ⟨f, fd, ps, F, hm, hk, hb⟩ := c.ex
  refine ⟨PEw (pe_call F hr hg hm hk hb .nil pass0 ha.out hdb he hpl) fun σ H Q h => ?_⟩
  obtain ⟨g, O, env, x, d, x', S, e, k⟩ := h
  unfold fCall at e
  split at e
  · rename_i ds x1 e1
    split at e
    · rename_i d1 e2
      cases e
      refine ⟨g, O, env, x, ds, x', S, e1, fun vs H1 S1 l1 r1 => ?_⟩
      show spF X.K m (vs ++ []) H1 Q E0
      rw [List.append_nil]
      exact ⟨g.T, O, ds, d, S1.tk, S1.tb, S1.dom, r1, e2, fun v H2 sm r2 => k v H2 (S1.sameT sm) (l1.trans (.ofT sm)) r2⟩
    · cases e
  · cases e
def fCallR (i : Nat) (m : List D → FRow → Option (D × FRow)) (fa : FA) : FE := fun env x => match env[i]? with
  | some .rw => match fa env x with
    | some (ds, x1) => m ds x1
    | none => none
  | _ => none
theorem se_callR {k i : Nat} {n r : Str} {p p1 : Pos} {m : List D → FRow → Option (D × FRow)} {fa : FA} (c : Callee X.prog X.w X.K X.mg X.base k n (spR X.K m)) (hr : Room k X.A) (hg : Gl X n) (ha : SA X es fa) (hdb : (n == ("__debug__" : Str)) = false := by decide)
    (he : starEach (.Name r p1 :: es) X.env = (false, eval (.Name r p1) X.env) :: starEach es X.env := by rfl) (hpl : (backTo pos (starEach es X.env)).any (·.1) = false := by rfl)
    (hN : X.N[i]? = some r := by rfl) (hvis : Vis X.env.scope r := by first | exact Or.inl rfl | exact Or.inr (Or.inl rfl) | exact Or.inr (Or.inr rfl)) (hd : (r == ("__debug__" : Str)) = false := by decide)
    (hcd : (r == ("__classdict__" : Str)) = false := by decide) : SE X (.Call (.Name n p) (.Name r p1 :: es) [] pos) (fCallR i m fa) := by
  obtain ⟨f, fd, ps, F, hm, hk, hb⟩ := c.ex
  refine ⟨PEw (pe_call F hr hg hm hk hb .nil pass0 (pa_cons (pe_var hN hvis hd hcd) ha.out he) hdb he hpl) fun σ H Q h => ?_⟩
  obtain ⟨g, O, env, x, d, x', S, e, k⟩ := h
  unfold fCallR at e
  split at e
  · rename_i e0
    split at e
    · rename_i ds x1 e1
      obtain ⟨s, e5, q5⟩ := S.at e0
      cases q5 with
      | @rw ra hR2 =>
        obtain ⟨hR, hF⟩ := hR2
        refine ⟨_, e5, g, O, env, x, ds, x1, S, e1, fun vs H1 S1 l1 r1 => ?_⟩
        show spR X.K m ((.ref ra :: vs) ++ []) H1 Q E0
        rw [List.append_nil]
        obtain ⟨q1, q2, q3⟩ := S1.row ra hR
        refine ⟨g.T, O, ra, vs, ds, x1, d, x', S1.tk, S1.tb, S1.dom, S1.sub _ q1, rfl, q3.row hF, r1, e, fun v H2 kp tb2 rt r2 => ?_⟩
        have l2 : Le g H1 H2 := fun a o n e t => kp a o (fun z => n (by rw [z]; exact hR)) e t
        exact k v H2 (S1.step l2 tb2 fun r hr => by rw [hR] at hr; cases hr; exact .of rt hF) (l1.trans l2) r2
    · cases e
  · cases e
/-! ### the row -/
def fRow (i : Nat) (k : Int) : FE := fun env x => match env[i]? with
  | some .rw => if k = 1 then some (.int x.a, x) else if k = 2 then some (.int x.b, x) else if k = 3 then some (.int x.c, x) else none
  | _ => none
theorem se_row {i j : Nat} {k : Int} {n : Str} {p p1 : Pos} (hN : X.N[i]? = some n := by rfl) (hvis : Vis X.env.scope n := by first | exact Or.inl rfl | exact Or.inr (Or.inl rfl) | exact Or.inr (Or.inr rfl)) (hd : (n == ("__debug__" : Str)) = false := by decide)
    (hcd : (n == ("__classdict__" : Str)) = false := by decide) : SE X (.Subscript (.Name n p) (.Constant (.int k) j p1) pos) (fRow i k) := by
  refine ⟨PEw (pe_ix ix_list (pe_var hN hvis hd hcd) pe_int (fun _ _ => rfl)) fun σ H Q h => ?_⟩
  obtain ⟨g, O, env, x, d, x', S, e, kk⟩ := h
  unfold fRow at e
  split at e
  · rename_i e0
    obtain ⟨s, e5, q5⟩ := S.at e0
    cases q5 with
    | @rw ra hR2 =>
      obtain ⟨hR, hF⟩ := hR2
      obtain ⟨a0, q3, q4⟩ := (S.row ra hR).2.2.row hF
      split at e
      · rename_i hk
        cases e
        subst hk
        exact ⟨_, e5, ra, _, 1, _, rfl, rfl, .of q3, rfl, kk _ _ S (Le.refl _ _) (.int _)⟩
      · split at e
        · rename_i hk
          cases e
          subst hk
          exact ⟨_, e5, ra, _, 2, _, rfl, rfl, .of q3, rfl, kk _ _ S (Le.refl _ _) (.int _)⟩
        · split at e
          · rename_i hk
            cases e
            subst hk
            exact ⟨_, e5, ra, _, 3, _, rfl, rfl, .of q3, rfl, kk _ _ S (Le.refl _ _) (.int _)⟩
          · cases e
  · cases e
theorem RowAt.seq {K : PySem.W.Frag} {O : Addr → Prop} {H : Hp} {r : Addr} {x : FRow} (h : RowAt K O H r x) : ∃ a0, H r = some (.lst [.ref a0, .int x.a, .int x.b, .int x.c]) ∧ SqL K H a0 (x.ns.map V.int) := by
  obtain ⟨a0, e, q⟩ := h
  exact ⟨a0, e, q.seq⟩
/-- len(row[0]) -/
def fRowLen (i : Nat) : FE := fun env x => match env[i]? with
  | some .rw => some (.int x.ns.length, x)
  | _ => none
theorem se_rowlen {i j : Nat} {n : Str} {p p0 p1 p2 : Pos} (hg : Gl X "len") (hm : X.mg "len" = none) (hN : X.N[i]? = some n := by rfl) (hvis : Vis X.env.scope n := by first | exact Or.inl rfl | exact Or.inr (Or.inl rfl) | exact Or.inr (Or.inr rfl)) (hd : (n == ("__debug__" : Str)) = false := by decide)
    (hcd : (n == ("__classdict__" : Str)) = false := by decide)
    (hs : starEach [.Subscript (.Name n p) (.Constant (.int 0) j p1) p2] X.env = (false, eval (.Subscript (.Name n p) (.Constant (.int 0) j p1) p2) X.env) :: starEach [] X.env := by rfl) : SE X (.Call (.Name "len" p0) [.Subscript (.Name n p) (.Constant (.int 0) j p1) p2] [] pos) (fRowLen i) := by
  refine ⟨PEw (pe_callB call_len_seq hg hm PySem.boot_len (pa_cons (pe_ix ix_list (pe_var hN hvis hd hcd) pe_int (fun _ _ => rfl)) pa_nil hs) (by decide) (by decide) hs) fun σ H Q h => ?_⟩
  obtain ⟨g, O, env, x, d, x', S, e, kk⟩ := h
  unfold fRowLen at e
  split at e
  · rename_i e0
    cases e
    obtain ⟨s, e5, q5⟩ := S.at e0
    cases q5 with
    | @rw ra hR2 =>
      obtain ⟨hR, hF⟩ := hR2
      obtain ⟨a0, q3, q4⟩ := ((S.row ra hR).2.2.row hF).seq
      refine ⟨_, e5, ra, _, 0, _, rfl, rfl, .of q3, rfl, a0, _, rfl, .inl q4, ?_⟩
      rw [List.length_map]
      exact kk _ _ S (Le.refl _ _) (.int _)
  · cases e
/-- row[0][e] -/
def fRowAt (i : Nat) (f : FE) : FE := fun env x => match env[i]? with
  | some .rw => match f env x with
    | some (.int k, x1) => match atI x.ns k with
      | some z => some (.int z, x1)
      | none => none
    | _ => none
  | _ => none
theorem atI_map {α β : Type} {f : α → β} {l : List α} {i : Int} {z : α} (h : atI l i = some z) : atI (l.map f) i = some (f z) := by
  unfold atI at h ⊢
  rw [List.length_map]
  cases q : ixN l.length i with
  | none => rw [q] at h; cases h
  | some j =>
    rw [q] at h
    show (l.map f)[j]? = some (f z)
    have h : l[j]? = some z := h
    rw [List.getElem?_map, h]
    rfl
theorem se_rowat {i j : Nat} {n : Str} {f : FE} {p p1 p2 : Pos} (hb : SE X b f) (hs : PlainIx b := by exact fun _ _ => rfl) (hN : X.N[i]? = some n := by rfl) (hvis : Vis X.env.scope n := by first | exact Or.inl rfl | exact Or.inr (Or.inl rfl) | exact Or.inr (Or.inr rfl)) (hd : (n == ("__debug__" : Str)) = false := by decide)
    (hcd : (n == ("__classdict__" : Str)) = false := by decide) : SE X (.Subscript (.Subscript (.Name n p) (.Constant (.int 0) j p1) p2) b pos) (fRowAt i f) := by
  refine ⟨PEw (pe_ix ix_list (pe_ix ix_list (pe_var hN hvis hd hcd) pe_int (fun _ _ => rfl)) hb.out hs) fun σ H Q h => ?_⟩
  obtain ⟨g, O, env, x, d, x', S, e, kk⟩ := h
  unfold fRowAt at e
  split at e
  · rename_i e0
    split at e
    · rename_i k x1 e1
      split at e
      · rename_i z e2
        cases e
        obtain ⟨s, e5, q5⟩ := S.at e0
        cases q5 with
        | @rw ra hR2 =>
          obtain ⟨hR, hF⟩ := hR2
          obtain ⟨a0, q3, q4⟩ := (S.row ra hR).2.2.row hF
          refine ⟨_, e5, ra, _, 0, _, rfl, rfl, .of q3, rfl, g, O, env, x, _, x', S, e1, fun v H1 S1 l1 r1 => ?_⟩
          cases r1
          refine ⟨a0, x.ns.map V.int, k, _, rfl, rfl, ?_, atI_map e2, kk _ _ S1 l1 (.int _)⟩
          exact (q4.to fun n => ⟨n, fun o e t => l1 a0 o (fun z => n (by rw [hR] at z; cases z; exact S.sub _ (S.row ra hR).1)) e t⟩).seq
      · cases e
    · cases e
  · cases e
end
end RT
namespace RT
open PySem PySem.Spec PyProof.Rows L2
/-! ### built-ins, by borrowed arguments -/
def tBs (ω : World) (K : PySem.W.Frag) (f : FA) : TA := fun σ H Q => ∃ g O env x d x', FSt ω K g O σ H env x ∧ f env x = some (d, x') ∧
  ∀ v H', FSt ω K g O σ H' env x' → Le g H H' → Paired (RpB K g O H') v d → Q v H'
structure SBs (X : Cx) (e : List Expr) (f : FA) : Prop where
  out : PA X e (tBs X.w X.K f)
theorem call_lenDR {X : Cx} : CallR X (.builtin "len") (fun xs H Q => ∃ a kvs, xs = [V.ref a] ∧ L2.Rd H a (.dK kvs) ∧ Q (.int kvs.length) H) := by
  intro pins s σ H xs us Q I r h
  obtain ⟨a, kvs, rfl, ha, q⟩ := h
  obtain ⟨u, rfl, ru⟩ := vals1 r
  cases ru
  exact d_len I ha fun t s' I' => ⟨.int kvs.length, H, I', ⟨t, rfl⟩, q⟩
theorem call_listDR {X : Cx} (hc : X.calm = true) : CallR X (.type "list") (fun xs H Q => ∃ p kvs, xs = [V.ref p] ∧ L2.Rd H p (.dK kvs) ∧ ∀ q, H q = none → Q (.ref q) (upd H q (.lst (kvs.map fun kv => kV kv.1)))) := by
  intro pins s σ H xs us Q I r h
  obtain ⟨p, kvs, e, hk, q⟩ := h
  subst e
  obtain ⟨u, eu, rx⟩ := vals1 r
  subst eu
  obtain rfl : u = Value.ref p := rx
  have ok : ObjOk X.prog X.w H s.heap p (.dK kvs) := hk.elim (fun hk => I.hok p _ hk) fun ⟨_, hk⟩ => (I.hok p _ hk).2
  obtain ⟨z, lo, vs, rk, hd⟩ := ok
  obtain ⟨ep, hat⟩ := hd.dictAt
  have hl : kvs.length = vs.length := Paired.length rk
  refine PySem.W.kdl_call (PySem.W.kdl_dict (knd := mixKind X.prog X.w) (kvs := vs) (ep := ep) lo) (I.ok.hd hc) hat (by rw [← hl]; exact z) fun h' tk acc' c' hkeep hS hacc => ?_
  refine ⟨.ref s.heap.objs.size, upd H s.heap.objs.size (.lst (kvs.map fun kv => kV kv.1)), I.laid hkeep (Nat.le_refl _) (show ObjOk X.prog X.w _ _ _ (.lst (kvs.map fun kv => kV kv.1)) from ⟨?_, acc'.toList, c', ?_, ?_⟩), rfl, q _ (I.hok.fresh (Nat.le_refl _))⟩
  · rw [List.length_map]; exact z
  · have el : acc'.toList.length = acc'.size := by simp
    refine vals_of_at (by rw [List.length_map, el, hacc.1, hl]) fun j x w h1 h2 => ?_
    obtain ⟨k, y, hky, hi⟩ := hacc.2 j w (by rw [← Array.getElem?_toList]; exact h2)
    have e1 : (kvs.map (·.1))[j]? = some k := by
      rw [KV.keys rk, List.getElem?_map, hky] <;> rfl
    have e2 : (kvs.map fun kv => kV kv.1)[j]? = some (kV k) := by
      have e3 : (kvs.map fun kv => kV kv.1) = (kvs.map (·.1)).map kV := by rw [List.map_map] <;> rfl
      rw [e3, List.getElem?_map, e1] <;> rfl
    rw [e2] at h1
    cases h1
    exact keyIs_rel hi
  · rw [Array.toArray_toList]; exact hS
section
variable {X : Cx} {a b c e : Expr} {es : List Expr} {fa fb fc f : FE} {pos : Pos}
theorem sbs_nil : SBs X [] aNil := by
  refine ⟨PAw pa_nil fun σ H Q h => ?_⟩
  obtain ⟨g, O, env, x, d, x', S, e, k⟩ := h
  cases e
  exact k _ _ S (Le.refl _ _) .nil
theorem sbs_cons {f : FE} {t : FA} (h : SB X e f) (ht : SBs X es t) (hs : starEach (e :: es) X.env = (false, eval e X.env) :: starEach es X.env := by rfl) : SBs X (e :: es) (aCons f t) := by
  refine ⟨PAw (pa_cons h.out ht.out hs) fun σ H Q h => ?_⟩
  obtain ⟨g, O, env, x, d, x', S, e, k⟩ := h
  unfold aCons at e
  split at e
  · rename_i d1 x1 e1
    split at e
    · rename_i ds x2 e2
      cases e
      refine ⟨g, O, env, x, d1, x1, S, e1, fun v H1 S1 l1 r1 => ?_⟩
      refine ⟨g, O, env, x1, ds, x', S1, e2, fun vs H2 S2 l2 r2 => ?_⟩
      exact k _ _ S2 (l1.trans l2) (.cons (RpB.step S1 l2 r1) r2)
    · cases e
  · cases e
def CallD (X : Cx) (f : Value) (gd : List D → Option D) : Prop :=
  CallR X f fun vs H Q => ∃ g O σ env x ds r, FSt X.w X.K g O σ H env x ∧ Paired (RpB X.K g O H) vs ds ∧ gd ds = some r ∧ ∀ u H', Same H H' → Rp X.K O H' u r → Q u H'
theorem CallD.by {f : Value} {r : List V → Hp → VK → Prop} {gd : List D → Option D} (h : CallR X f r)
    (q : ∀ g O σ env x ds z H vs Q, FSt X.w X.K g O σ H env x → Paired (RpB X.K g O H) vs ds → gd ds = some z → (∀ u H', Same H H' → Rp X.K O H' u z → Q u H') → r vs H Q) : CallD X f gd := by
  intro pins s σ H vs us Q I rv h2
  obtain ⟨g, O, σ', env, x, ds, z, S, rr, e, k⟩ := h2
  exact h pins s σ H vs us Q I rv (q _ _ _ _ _ _ _ _ _ _ S rr e k)
theorem se_callB {id : String} {n : Str} {p : Pos} {gd : List D → Option D} {fa : FA} (hc : CallD X (.builtin id) gd) (hg : Gl X n) (hm : X.mg n = none) (hv : bootBuiltins n = some (.builtin id)) (ha : SBs X (e :: es) fa) (hn : n ≠ "__name__" := by decide) (hdb : (n == ("__debug__" : Str)) = false := by decide)
    (he : starEach (e :: es) X.env = (false, eval e X.env) :: starEach es X.env := by rfl) (hpl : (backTo pos (starEach es X.env)).any (·.1) = false := by rfl) : SE X (.Call (.Name n p) (e :: es) [] pos) (fCall gd fa) := by
  refine ⟨PEw (pe_callB hc hg hm hv ha.out hn hdb he hpl) fun σ H Q h => ?_⟩
  obtain ⟨g, O, env, x, d, x', S, e, k⟩ := h
  unfold fCall at e
  split at e
  · rename_i ds x1 e1
    split at e
    · rename_i d1 e2
      cases e
      exact ⟨g, O, env, x, ds, x', S, e1, fun vs H1 S1 l1 r1 => ⟨g, O, σ, env, x', ds, d, S1, r1, e2, fun u H2 sm r2 => k u H2 (S1.same sm) (l1.trans (.of sm)) r2⟩⟩
    · cases e
  · cases e
theorem se_callTy {T : String} {n : Str} {p : Pos} {gd : List D → Option D} {fa : FA} (hc : CallD X (.type T) gd) (hg : Gl X n) (hm : X.mg n = none) (hv : bootBuiltins n = some (.type T)) (ha : SBs X (e :: es) fa) (hn : n ≠ "__name__" := by decide) (hdb : (n == ("__debug__" : Str)) = false := by decide)
    (he : starEach (e :: es) X.env = (false, eval e X.env) :: starEach es X.env := by rfl) (hpl : (backTo pos (starEach es X.env)).any (·.1) = false := by rfl) : SE X (.Call (.Name n p) (e :: es) [] pos) (fCall gd fa) := by
  refine ⟨PEw (pe_callTy hc hg hm hv ha.out hn hdb he hpl) fun σ H Q h => ?_⟩
  obtain ⟨g, O, env, x, d, x', S, e, k⟩ := h
  unfold fCall at e
  split at e
  · rename_i ds x1 e1
    split at e
    · rename_i d1 e2
      cases e
      exact ⟨g, O, env, x, ds, x', S, e1, fun vs H1 S1 l1 r1 => ⟨g, O, σ, env, x', ds, d, S1, r1, e2, fun u H2 sm r2 => k u H2 (S1.same sm) (l1.trans (.of sm)) r2⟩⟩
    · cases e
  · cases e
def gLen : List D → Option D
  | [.list ds] => some (.int ds.length)
  | [.tuple ds] => some (.int ds.length)
  | [.dict ds] => some (.int ds.length)
  | [.dictT ds] => some (.int ds.length)
  | _ => none
def rLenTR : List V → Hp → VK → Prop := fun xs H Q => ∃ (p : Addr) (kvs : List (List L2.Key × V)), xs = [.ref p] ∧ L2.Rd H p (.dT kvs) ∧ Q (.int ((kvs.length : Nat) : Int)) H
theorem call_len_dTR {X : Cx} : CallR X (.builtin "len") rLenTR := by
  intro pins s σ H xs us Q I r h
  obtain ⟨p, kvs, rfl, hp, q⟩ := h
  obtain ⟨u, rfl, rx⟩ := vals1 r
  obtain rfl : u = .ref p := rx
  obtain ⟨z, hd, ys, rel, dd⟩ := dt_rd I.hok hp
  have hl : kvs.length = ys.length := Paired.length rel
  refine call_len_dictH hd dd (by rw [← hl]; rw [sizeLine_eq] at z; omega) ?_
  rw [← hl]
  exact ⟨.int ((kvs.length : Nat) : Int), H, I.tok _, ⟨_, rfl⟩, q⟩
theorem cd_len : CallD X (.builtin "len") gLen := by
  refine CallD.by ((call_len_seq.or call_lenDR).or call_len_dTR) fun g O σ env x ds z H vs Q S r e k => ?_
  unfold gLen at e
  split at e
  · cases e
    cases r with
    | cons r r' =>
      cases r'
      obtain ⟨p, xs, rfl, q, rx⟩ := r.lst
      refine .inl (.inl ⟨p, xs, rfl, .inl (.of q), ?_⟩)
      rw [rx.length]
      exact k _ _ (Same.refl _) (.int _)
  · cases e
    cases r with
    | cons r r' =>
      cases r'
      obtain ⟨p, xs, rfl, q, rx⟩ := r.tup.tupAt
      refine .inl (.inl ⟨p, xs, rfl, .inr (.of q), ?_⟩)
      rw [rx.length]
      exact k _ _ (Same.refl _) (.int _)
  · cases e
    cases r with
    | cons r r' =>
      cases r'
      obtain ⟨p, xs, rfl, q, rx⟩ := r.dct
      refine .inl (.inr ⟨p, xs, rfl, q, ?_⟩)
      rw [rx.length]
      exact k _ _ (Same.refl _) (.int _)
  · cases e
    cases r with
    | cons r r' =>
      cases r'
      obtain ⟨p, xs, rfl, q, rx⟩ := r.dcT
      refine .inr ⟨p, xs, rfl, q, ?_⟩
      rw [rx.length]
      exact k _ _ (Same.refl _) (.int _)
  · cases e
def gTupOf : List D → Option D
  | [.list ds] => some (.tuple ds)
  | [.tuple ds] => some (.tuple ds)
  | _ => none
theorem cd_tuple : CallD X (.type "tuple") gTupOf := by
  refine CallD.by call_tuple_of fun g O σ env x ds z H vs Q S r e k => ?_
  unfold gTupOf at e
  split at e
  · cases e
    cases r with
    | cons r r' =>
      cases r'
      obtain ⟨p, xs, rfl, q, rx⟩ := r.lst
      refine ⟨p, xs, rfl, .inl ⟨.of q, fun l hl => ?_⟩⟩
      have sm := same_upd (o := .tup xs) hl
      exact k _ _ sm (.tup (S.notO hl) upd_same (rx.move (.of sm) .refl))
  · cases e
    cases r with
    | cons r r' =>
      cases r'
      obtain ⟨p, xs, rfl, q, rx⟩ := r.tup.tupAt
      exact ⟨p, xs, rfl, .inr ⟨.of q, k _ _ (Same.refl _) r.tup⟩⟩
  · cases e
def gListOf : List D → Option D
  | [.list ds] => some (.list ds)
  | [.tuple ds] => some (.list ds)
  | [.dict ds] => some (.list (ds.map (·.1)))
  | [.dictT ds] => some (.list (ds.map (·.1)))
  | _ => none
theorem keys_rp {K : PySem.W.Frag} {O : Addr → Prop} {H : Hp} : ∀ {kvs : List (L2.Key × V)} {ds : List (D × D)}, RpK K O H kvs ds → RpA K O H (kvs.map fun kv => kV kv.1) (ds.map (·.1))
  | _, _, .nil => .nil
  | _, _, .cons (k := k) a b => .cons (by cases k with
    | inl i => exact .int i
    | inr s => exact .str s) (keys_rp b)
theorem kVs_rp {K : PySem.W.Frag} {O : Addr → Prop} {H : Hp} : ∀ ks : List L2.Key, RpA K O H (ks.map kV) (ks.map keyD)
  | [] => .nil
  | k :: ks => .cons (by cases k with
    | inl i => exact .int i
    | inr s => exact .str s) (kVs_rp ks)
theorem keysT_rp {ω : World} {K : PySem.W.Frag} {g : FG} {O : Addr → Prop} {H : Hp} {σ : L2.St} {env : FEn} {x : FRow} (S : FSt ω K g O σ H env x) : ∀ {kvs : List (List L2.Key × V)} {ds : List (D × D)} {bs : List Addr}, RpT K O H kvs ds → IsKeys H kvs bs → RpA K O H (bs.map V.ref) (ds.map (·.1))
  | _, _, _, .nil, .nil => .nil
  | _, _, _, .cons (k := k) a b, .cons q qs => .cons (.tup (fun z => by
      have m := S.dom _ z
      rw [q] at m
      exact m) q (kVs_rp k)) (keysT_rp S b qs)
theorem cd_list (hc : X.calm = true) : CallD X (.type "list") gListOf := by
  refine CallD.by ((call_list_of.or (call_listDR hc)).or (call_list_dT hc)) fun g O σ env x ds z H vs Q S r e k => ?_
  unfold gListOf at e
  split at e
  · cases e
    cases r with
    | cons r r' =>
      cases r'
      obtain ⟨p, xs, rfl, q, rx⟩ := r.lst
      refine .inl (.inl ⟨p, xs, rfl, .inl (.of q), fun l hl => ?_⟩)
      have sm := same_upd (o := .lst xs) hl
      exact k _ _ sm (.lst (S.notO hl) upd_same (rx.move (.of sm) .refl))
  · cases e
    cases r with
    | cons r r' =>
      cases r'
      obtain ⟨p, xs, rfl, q, rx⟩ := r.tup.tupAt
      refine .inl (.inl ⟨p, xs, rfl, .inr (.of q), fun l hl => ?_⟩)
      have sm := same_upd (o := .lst xs) hl
      exact k _ _ sm (.lst (S.notO hl) upd_same (rx.move (.of sm) .refl))
  · cases e
    cases r with
    | cons r r' =>
      cases r'
      obtain ⟨p, xs, rfl, q, rx⟩ := r.dct
      refine .inl (.inr ⟨p, xs, rfl, q, fun l hl => ?_⟩)
      have sm := same_upd (o := .lst (xs.map fun kv => kV kv.1)) hl
      exact k _ _ sm (.lst (S.notO hl) upd_same ((keys_rp rx).move (.of sm) .refl))
  · cases e
    cases r with
    | cons r r' =>
      cases r'
      obtain ⟨p, xs, rfl, q, rx⟩ := r.dcT
      refine .inr ⟨p, xs, rfl, q, fun l bs hl hk => ?_⟩
      have sm := same_upd (o := .lst (bs.map V.ref)) hl
      exact k _ _ sm (.lst (S.notO hl) upd_same ((keysT_rp S rx hk).move (.of sm) .refl))
  · cases e
def bools : List D → Option (List Bool)
  | [] => some []
  | .bool b :: ds => match bools ds with
    | some bs => some (b :: bs)
    | none => none
  | _ => none
theorem bools_ok : ∀ {ds : List D} {bs : List Bool}, bools ds = some bs → ds = bs.map .bool
  | [], _, h => by cases h; rfl
  | d :: ds, bs, h => by
    unfold bools at h
    split at h
    · rename_i e1; cases e1
    · rename_i e1
      cases e1
      split at h
      · rename_i q
        cases h
        rw [bools_ok q]
        rfl
      · cases h
    · cases h
def intsD : List D → Option (List Int)
  | [] => some []
  | .int b :: ds => match intsD ds with
    | some bs => some (b :: bs)
    | none => none
  | _ => none
theorem ints_ok : ∀ {ds : List D} {bs : List Int}, intsD ds = some bs → ds = bs.map .int
  | [], _, h => by cases h; rfl
  | d :: ds, bs, h => by
    unfold intsD at h
    split at h
    · rename_i e1; cases e1
    · rename_i e1
      cases e1
      split at h
      · rename_i q
        cases h
        rw [ints_ok q]
        rfl
      · cases h
    · cases h
theorem ints_map : ∀ ns : List Int, intsD (ns.map .int) = some ns
  | [] => rfl
  | n :: ns => by simp only [List.map_cons, intsD, ints_map ns]
def gAll : List D → Option D
  | [.list ds] => match bools ds with
    | some bs => some (.bool (bs.all id))
    | none => none
  | _ => none
theorem cd_all (hc : X.calm = true) : CallD X (.builtin "all") gAll := by
  refine CallD.by (cr_all hc) fun g O σ env x ds z H vs Q S r e k => ?_
  unfold gAll at e
  split at e
  · split at e
    · rename_i ds bs q
      cases e
      cases r with
      | cons r r' =>
        cases r'
        obtain ⟨p, xs, rfl, hp, rx⟩ := r.lst
        rw [bools_ok q] at rx
        rw [rx.bls] at hp
        exact ⟨p, bs, rfl, .of hp, k _ _ (Same.refl _) (.bl _)⟩
    · cases e
  · cases e
def gInt : List D → Option D
  | [.int i] => some (.int i)
  | [.bool b] => some (.int (if b then 1 else 0))
  | _ => none
theorem cd_int : CallD X (.type "int") gInt := by
  refine CallD.by call_int1 fun g O σ env x ds z H vs Q S r e k => ?_
  unfold gInt at e
  split at e
  · cases e
    cases r with
    | cons r r' =>
      cases r'
      exact .inl ⟨_, by rw [r.int], k _ _ (Same.refl _) (.int _)⟩
  · cases e
    cases r with
    | cons r r' =>
      cases r'
      exact .inr ⟨_, by rw [r.bl], k _ _ (Same.refl _) (.int _)⟩
  · cases e
/-! ### sorted, of intsD -/
def insI (n : Int) : List Int → List Int
  | [] => [n]
  | m :: ms => if n ≤ m then n :: m :: ms else m :: insI n ms
def sortI : List Int → List Int
  | [] => []
  | n :: ns => insI n (sortI ns)
theorem insI_perm (n : Int) : ∀ ms : List Int, (insI n ms).Perm (n :: ms)
  | [] => .refl _
  | m :: ms => by
    unfold insI
    split
    · exact .refl _
    · exact ((insI_perm n ms).cons m).trans (.swap n m ms)
theorem sortI_perm : ∀ ns : List Int, (sortI ns).Perm ns
  | [] => .refl _
  | n :: ns => (insI_perm n _).trans ((sortI_perm ns).cons n)
theorem insI_sorted (n : Int) : ∀ ms : List Int, ms.Pairwise (· ≤ ·) → (insI n ms).Pairwise (· ≤ ·)
  | [], _ => by simp [insI]
  | m :: ms, h => by
    unfold insI
    have h' := List.pairwise_cons.mp h
    split
    · rename_i hn
      refine List.pairwise_cons.mpr ⟨fun a ha => ?_, h⟩
      rcases List.mem_cons.mp ha with rfl | ha
      · exact hn
      · exact Int.le_trans hn (h'.1 a ha)
    · rename_i hn
      refine List.pairwise_cons.mpr ⟨fun a ha => ?_, insI_sorted n ms h'.2⟩
      rcases List.mem_cons.mp ((insI_perm n ms).mem_iff.mp ha) with rfl | ha
      · omega
      · exact h'.1 a ha
theorem sortI_sorted : ∀ ns : List Int, (sortI ns).Pairwise (· ≤ ·)
  | [] => .nil
  | n :: ns => insI_sorted n _ (sortI_sorted ns)
theorem sorted_uniq : ∀ {l m : List Int}, l.Perm m → l.Pairwise (· ≤ ·) → m.Pairwise (· ≤ ·) → l = m
  | [], m, h, _, _ => h.nil_eq
  | x :: l, [], h, _, _ => absurd h.length_eq (by simp)
  | x :: l, y :: m, h, hl, hm => by
    have hl' := List.pairwise_cons.mp hl
    have hm' := List.pairwise_cons.mp hm
    have e : x = y := by
      have h1 : y ≤ x := by
        rcases List.mem_cons.mp (h.mem_iff.mp List.mem_cons_self) with e | e
        · omega
        · exact hm'.1 x e
      have h2 : x ≤ y := by
        rcases List.mem_cons.mp (h.mem_iff.mpr List.mem_cons_self) with e | e
        · omega
        · exact hl'.1 y e
      omega
    subst e
    rw [sorted_uniq h.cons_inv hl'.2 hm'.2]
def gSortI : List D → Option D
  | [.list ds] => match intsD ds with
    | some ns => some (.list ((sortI ns).map .int))
    | none => none
  | _ => none
theorem cd_sorted : CallD X (.builtin "sorted") gSortI := by
  refine CallD.by cr_sortedI fun g O σ env x ds z H vs Q S r e k => ?_
  unfold gSortI at e
  split at e
  · split at e
    · rename_i ds ns q
      cases e
      cases r with
      | cons r r' =>
        cases r'
        obtain ⟨p, xs, rfl, hp, rx⟩ := r.lst
        rw [ints_ok q] at rx
        rw [rx.ints] at hp
        refine ⟨p, ns, rfl, .of hp, fun ns' l h1 h2 hl => ?_⟩
        have e2 : ns' = sortI ns := sorted_uniq (h1.trans (sortI_perm ns).symm) h2 (sortI_sorted ns)
        subst e2
        have sm := same_upd (o := .lst ((sortI ns).map V.int)) hl
        exact k _ _ sm (.lst (S.notO hl) upd_same (RpA.ofInts _))
    · cases e
  · cases e
/-! ### isinstance -/
inductive Ty where
  | int | bool | str | tuple | list | dict
def Ty.nm : Ty → String
  | .int => "int"
  | .bool => "bool"
  | .str => "str"
  | .tuple => "tuple"
  | .list => "list"
  | .dict => "dict"
def isiD : Ty → D → Option Bool
  | _, .sets _ => none
  | _, .dictT _ => none
  | .int, .int _ => some true
  | .int, .bool _ => some true
  | .bool, .bool _ => some true
  | .str, .str _ => some true
  | .tuple, .tuple _ => some true
  | .list, .list _ => some true
  | .dict, .dict _ => some true
  | _, _ => some false
def tyD : D → String
  | .none => "NoneType"
  | .bool _ => "bool"
  | .int _ => "int"
  | .str _ => "str"
  | .list _ => "list"
  | .tuple _ => "tuple"
  | .dict _ => "dict"
  | .dictT _ => "dict"
  | .sets _ => "set"
theorem kit_all : ∀ (T : Ty) (n : String), n ∈ ["NoneType", "bool", "int", "str", "list", "tuple", "dict"] → kitB n T.nm = some (decide (n = T.nm) || decide (n = "bool" ∧ T.nm = "int")) := by
  intro T n h
  simp only [List.mem_cons, List.not_mem_nil, or_false] at h
  rcases h with rfl | rfl | rfl | rfl | rfl | rfl | rfl <;> cases T <;> decide +kernel
theorem kit_isi {T : Ty} {d : D} {b : Bool} (h : isiD T d = some b) : kitB (tyD d) T.nm = some b := by
  cases d with
  | sets ns => cases T <;> simp [isiD] at h
  | dictT ns => cases T <;> simp [isiD] at h
  | _ => (rw [kit_all T _ (by simp [tyD])]; rw [← h]; cases T <;> simp [tyD, Ty.nm, isiD])
theorem ty_of {K : PySem.W.Frag} {g : FG} {O : Addr → Prop} {H : Hp} {v : V} {d : D} (r : RpB K g O H v d) {T : Ty} {b : Bool} (hT : isiD T d = some b) : TyX K H v (.type (tyD d)) := by
  rcases r with r | ⟨a, w, rfl, rfl, ha, hr, z⟩
  · cases r with
    | non => exact .base .non
    | bl b => exact .base (.bl b)
    | int i => exact .base (.int i)
    | str x => exact .base (.str x)
    | lst _ e _ => exact .base (.lst e)
    | tup _ e _ => exact .base (.tup e)
    | dK _ e _ => exact e.elim (fun e => .base (.dK e)) fun ⟨_, e⟩ => .fDict e
    | dT _ e _ => cases T <;> simp [isiD] at hT
  · cases w with
    | lst ds => obtain ⟨xs, e, _⟩ := z; exact .base (.lst e)
    | dk ds => obtain ⟨xs, e, _⟩ := z; exact .base (.dK e)
    | dt ds => obtain ⟨xs, e, _⟩ := z; exact .base (.dT e)
def fIsi (T : Ty) (f : FE) : FE := fun env x => match f env x with
  | some (d, x1) => match isiD T d with
    | some b => some (.bool b, x1)
    | none => none
  | none => none
theorem se_isi {T : Ty} {n : Str} {p p1 : Pos} (hg : Gl X "isinstance") (hm : X.mg "isinstance" = none) (ha : SB X a fa) (hgT : Gl X n) (hmT : X.mg n = none) (hvT : bootBuiltins n = some (.type T.nm)) (hnT : n ≠ "__name__" := by decide) (hdT : (n == ("__debug__" : Str)) = false := by decide)
    (he : starEach [a, .Name n p1] X.env = (false, eval a X.env) :: starEach [.Name n p1] X.env := by rfl) (he2 : starEach [.Name n p1] X.env = (false, eval (.Name n p1) X.env) :: starEach [] X.env := by rfl) (hpl : (backTo pos (starEach [.Name n p1] X.env)).any (·.1) = false := by rfl) :
    SE X (.Call (.Name "isinstance" p) [a, .Name n p1] [] pos) (fIsi T fa) := by
  refine ⟨PEw (pe_callB call_isi hg hm (by decide +kernel) (pa_cons ha.out (pa_cons (pe_bltn (v := .ty T.nm) hgT hmT hvT rfl hnT hdT) pa_nil he2) he) (by decide) (by decide) he hpl) fun σ H Q h => ?_⟩
  obtain ⟨g, O, env, x, d, x', S, e, k⟩ := h
  unfold fIsi at e
  split at e
  · rename_i dd x1 e1
    split at e
    · rename_i b e2
      cases e
      exact ⟨g, O, env, x, dd, x', S, e1, fun v H1 S1 l1 r1 => ⟨v, .ty T.nm, _, _, b, rfl, .ty _, ty_of r1 e2, kit_ty (kit_isi e2), k _ _ S1 l1 (.bl b)⟩⟩
    · cases e
  · cases e
def fIsi2 (T U : Ty) (f : FE) : FE := fun env x => match f env x with
  | some (d, x1) => match isiD T d, isiD U d with
    | some b, some c => some (.bool (b || c), x1)
    | _, _ => none
  | none => none
theorem se_isi2 {T U : Ty} {n m : Str} {p p1 p2 p3 : Pos} {kk : Nat} (hg : Gl X "isinstance") (hm : X.mg "isinstance" = none) (ha : SB X a fa) (hgT : Gl X n) (hmT : X.mg n = none) (hvT : bootBuiltins n = some (.type T.nm)) (hgU : Gl X m) (hmU : X.mg m = none) (hvU : bootBuiltins m = some (.type U.nm))
    (hnT : n ≠ "__name__" := by decide) (hdT : (n == ("__debug__" : Str)) = false := by decide) (hnU : m ≠ "__name__" := by decide) (hdU : (m == ("__debug__" : Str)) = false := by decide)
    (he : starEach [a, .Tuple [.Name n p1, .Name m p2] kk p3] X.env = (false, eval a X.env) :: starEach [.Tuple [.Name n p1, .Name m p2] kk p3] X.env := by rfl) (he2 : starEach [.Tuple [.Name n p1, .Name m p2] kk p3] X.env = (false, eval (.Tuple [.Name n p1, .Name m p2] kk p3) X.env) :: starEach [] X.env := by rfl)
    (he3 : starEach [.Name n p1, .Name m p2] X.env = (false, eval (.Name n p1) X.env) :: starEach [.Name m p2] X.env := by rfl) (he4 : starEach [.Name m p2] X.env = (false, eval (.Name m p2) X.env) :: starEach [] X.env := by rfl)
    (hpl : (backTo pos (starEach [.Tuple [.Name n p1, .Name m p2] kk p3] X.env)).any (·.1) = false := by rfl) :
    SE X (.Call (.Name "isinstance" p) [a, .Tuple [.Name n p1, .Name m p2] kk p3] [] pos) (fIsi2 T U fa) := by
  refine ⟨PEw (pe_callB call_isiT hg hm (by decide +kernel) (pa_cons ha.out (pa_cons (pe_tup (pa_cons (pe_bltn (v := .ty T.nm) hgT hmT hvT rfl hnT hdT) (pa_cons (pe_bltn (v := .ty U.nm) hgU hmU hvU rfl hnU hdU) pa_nil he4) he3)) pa_nil he2) he) (by decide) (by decide) he hpl) fun σ H Q h => ?_⟩
  obtain ⟨g, O, env, x, d, x', S, e, k⟩ := h
  unfold fIsi2 at e
  split at e
  · rename_i dd x1 e1
    split at e
    · rename_i b c e2 e3
      cases e
      refine ⟨g, O, env, x, dd, x', S, e1, fun v H1 S1 l1 r1 => ⟨maxLen_ok (show 2 ≤ maxLen by decide), fun q hq => ?_⟩⟩
      have sm := same_upd (o := .tup [.ty T.nm, .ty U.nm]) hq
      refine ⟨v, q, _, _, [.type T.nm, .type U.nm], b || c, rfl, upd_same, .cons (.ty _) (.cons (.ty _) .nil), ty_of (RpB.step S1 (.of sm) r1) e2, ?_, k _ _ (S1.same sm) (l1.trans (.of sm)) (.bl _)⟩
      refine kitAny_cons (kit_ty (kit_isi e2)) (fun hb => ?_) fun hb => by rw [hb]; rfl
      rw [hb]
      exact kitAny_cons (kit_ty (kit_isi e3)) (fun hb => by rw [hb]; exact kitAny_nil) fun hb => by rw [hb]; rfl
    · cases e
  · cases e
/-! ### a store to the row -/
def sRow (i : Nat) (k : Int) (f : FE) : FS := fun env x => match f env x with
  | some (.int z, x1) => match env[i]? with
    | some .rw => if k = 1 then some (.nx env, { x1 with a := z }) else if k = 2 then some (.nx env, { x1 with b := z }) else if k = 3 then some (.nx env, { x1 with c := z }) else none
    | _ => none
  | _ => none
theorem row_put {ω : World} {K : PySem.W.Frag} {g : FG} {O : Addr → Prop} {σ : L2.St} {H : Hp} {env : FEn} {x x' : FRow} {r : Addr} {xs : List V} (S : FSt ω K g O σ H env x) (hR : g.R = some r ∧ g.F = none) (rt : RowAt K O (upd H r (.lst xs)) r x') : FSt ω K g O σ (upd H r (.lst xs)) env x' :=
  have ⟨_, h1, _⟩ := (S.row r hR.1).2.2.row hR.2
  S.step (fun a o n e _ => by rw [upd_ne (fun z => n (by rw [z]; exact hR.1))]; exact e) (tabs_upd S.tb h1 rfl notC_lst) fun q hq => by rw [hR.1] at hq; cases hq; exact .of rt hR.2
theorem rowAt_upd {K : PySem.W.Frag} {O : Addr → Prop} {H : Hp} {r a0 : Addr} {ns : List Int} {i j l : Int} {ys : List V} (h : H r = some (.lst ys)) (q : RowL K O H a0 ns) (ro : O r) : RowAt K O (upd H r (.lst [.ref a0, .int i, .int j, .int l])) r ⟨ns, i, j, l⟩ := by
  exact ⟨a0, upd_same, q.updO ro⟩
theorem ss_row {i j : Nat} {k : Int} {n : Str} {f : FE} {p p1 pos' : Pos} (he : SE X e f) (hs : swapsWithSole [.Subscript (.Name n p) (.Constant (.int k) j p1) pos'] e pos.line X.env = pure false := by rfl) (hw : swappedStores [.Subscript (.Name n p) (.Constant (.int k) j p1) pos'] e X.env = pure none := by rfl)
    (h1 : (assignEach [.Subscript (.Name n p) (.Constant (.int k) j p1) pos'] X.env).map (·.2) = [assign (.Subscript (.Name n p) (.Constant (.int k) j p1) pos') X.env] := by rfl)
    (hN : X.N[i]? = some n := by rfl) (hvis : Vis X.env.scope n := by first | exact Or.inl rfl | exact Or.inr (Or.inl rfl) | exact Or.inr (Or.inr rfl)) (hd : (n == ("__debug__" : Str)) = false := by decide)
    (hcd : (n == ("__classdict__" : Str)) = false := by decide) : SS X (.Assign [.Subscript (.Name n p) (.Constant (.int k) j p1) pos'] e pos) (sRow i k f) := by
  refine ⟨PSw (ps_asg he.out (pg_sub (pe_var hN hvis hd hcd) pe_int set_list) hs hw h1) fun Dn σ H h => ?_⟩
  obtain ⟨g, O, env, x, r, x', S, e, kk⟩ := h
  unfold sRow at e
  split at e
  · rename_i z x1 e1
    split at e
    · rename_i e0
      refine ⟨g, O, env, x, _, x1, S, e1, fun v H1 S1 l1 r1 => ?_⟩
      cases r1
      obtain ⟨s, e5, q5⟩ := S1.at e0
      cases q5 with
      | @rw ra hR =>
        obtain ⟨q1, q2, q5⟩ := S1.row ra hR.1
        obtain ⟨a0, q3, q4⟩ := q5.row hR.2
        split at e
        · rename_i hk
          cases e
          subst hk
          exact ⟨_, e5, ra, _, 1, 1, rfl, rfl, q3, rfl, kk O _ _ (row_put S1 hR (rowAt_upd q3 q4 (S1.sub _ q1)))⟩
        · split at e
          · rename_i hk
            cases e
            subst hk
            exact ⟨_, e5, ra, _, 2, 2, rfl, rfl, q3, rfl, kk O _ _ (row_put S1 hR (rowAt_upd q3 q4 (S1.sub _ q1)))⟩
          · split at e
            · rename_i hk
              cases e
              subst hk
              exact ⟨_, e5, ra, _, 3, 3, rfl, rfl, q3, rfl, kk O _ _ (row_put S1 hR (rowAt_upd q3 q4 (S1.sub _ q1)))⟩
            · cases e
    · cases e
  · cases e
end
end RT
namespace RT
open PySem PySem.Spec PyProof.Rows L2
/-! ### enumerate of a list, of a tuple -/
set_option maxHeartbeats 2000000 in
theorem meets_enum1 {v : Value} {o : Obj} {Hh : Heap → Prop} (B : Begins v o Hh) :
    Meets (Builtin.«enumerate.__new__» ⟨[.type "enumerate", v], []⟩) (fun _ R s => Hh s.heap ∧
      R (.ok (.ret (.ref (s.heap.push o).objs.size))) { s with heap := (s.heap.push o).push { cls := .type "enumerate", data := .fields #[.none, .bool false, .ref s.heap.objs.size, rawInt 0, .none, .none] } }) := by
  refine .of_wp fun prog w A R s h => ?_
  obtain ⟨hp, gg, dd, tk, os⟩ := s
  obtain ⟨h1, h⟩ := h
  have hsub := sub_enumerate
  have q1 : ∀ {A' : Around} {E : Value → Shared → Prop} {Q : Value → Shared → Prop}, Q (.ref hp.objs.size) ⟨hp.push o, gg, dd, tk, os⟩ → wpAny (model prog w) A' (pyIter v) Q E ⟨hp, gg, dd, tk, os⟩ := fun q => B.iter prog w _ _ ⟨hp, gg, dd, tk, os⟩ _ h1 q
  wp_walk using q1
  refine wpAny_stack_any fun st => wpAny_pure ?_
  split
  · rename_i c _ _ _ _ _
    cases (c == Value.type "enumerate") <;>
      (wp_walk using q1
       exact ⟨_, rfl, h⟩)
  · wp_walk using q1
    exact ⟨_, rfl, h⟩
theorem call_enum1 {prog : Program} {w : World} {A : Around} {E : Value → Shared → Prop} {s : Shared} {v : Value} {o : Obj} {Hh : Heap → Prop} {Q : Value → Shared → Prop} (B : Begins v o Hh) (h1 : Hh s.heap)
    (h : ∀ h', IsEnum h' (s.heap.objs.size + 1) s.heap.objs.size 0 .none → h'.get? s.heap.objs.size = some o → h'.objs.size = s.heap.objs.size + 2 → (∀ b o, s.heap.get? b = some o → h'.get? b = some o) → Q (.ref (s.heap.objs.size + 1)) { s with heap := h' }) :
    wpAny (model prog w) A (call (.type "enumerate") [v]) Q E s := by
  refine callType_new F.called_enumerate (by decide) (F.typeCall_enumerate_1 _) (F.newCall_enumerate_1 _) (fun obj => F.args_object_init_2 obj _) F.entry_enumerate_new (meets_enum1 B) ⟨h1, ?_⟩
  have hz : (s.heap.push o).objs.size = s.heap.objs.size + 1 := Heap.size_push ..
  show _ ∧ _
  rw [hz]
  have he : IsEnum ((s.heap.push o).push { cls := .type "enumerate", data := .fields #[.none, .bool false, .ref s.heap.objs.size, rawInt 0, .none, .none] }) (s.heap.objs.size + 1) s.heap.objs.size 0 .none := by
    have q := Heap.get?_push_size (s.heap.push o) (o := { cls := .type "enumerate", data := .fields #[.none, .bool false, .ref s.heap.objs.size, rawInt 0, .none, .none] }) rfl
    rw [hz] at q
    exact q
  exact ⟨⟨_, he, rfl⟩, h _ he (Heap.get?_push_of_some _ (Heap.get?_push_size _ B.free)) (by rw [Heap.size_push, hz]) fun b o x => Heap.get?_push_of_some _ (Heap.get?_push_of_some _ x)⟩
/-- the turns: the tuple at a stands, each item in a new pair -/
def ItE (K : PySem.W.Frag) (a : Addr) : It where
  go := fun i H => ∃ (xs : List V) (x : V), SqT K H a xs ∧ xs[i]? = some x
  yld := fun i H v H' => ∃ T x, v = .ref T ∧ H T = none ∧ H' = upd H T (.tup [.int (i : Nat), x]) ∧ ∀ xs, SqT K H a xs → xs[i]? = some x
  stop := fun i H => ∃ xs : List V, SqT K H a xs ∧ xs.length = i
theorem turn_enumT {P : Program} {w : World} {K : PySem.W.Frag} {elts : List Expr} {kk : Nat} {tpos : Pos} (a e it : Addr) :
    Turn P w K (.Tuple elts kk tpos) (ItE K a) [e, it] e (fun i h => (∃ old, IsEnum h e it ((i : Nat) : Int) old) ∧ h.IsTupleIter it a i ∧ e ≠ it ∧ a ≠ it ∧ e ≠ a) := by
  refine ⟨by simp, fun i h st b hb => ?_, fun i h h' st k => ?_, ?_, ?_, fun A i s Q E st h => ?_⟩
  · obtain ⟨⟨old, he⟩, ⟨o, ho, hc, hd⟩, _⟩ := st
    rcases (show b = e ∨ b = it by simpa using hb) with rfl | rfl
    · exact ⟨_, he, fun v q => nomatch q⟩
    · exact ⟨o, ho, fun v q => by rw [hd] at q; cases q⟩
  · obtain ⟨⟨old, he⟩, hi, n1, n2, n3⟩ := st
    exact ⟨⟨old, k e (by simp) _ he⟩, hi.at fun o q => k it (by simp) o q, n1, n2, n3⟩
  · rintro X rfl rfl rfl hc i pins s σ H E I hf ⟨⟨old, he⟩, hit, n1, n2, n3⟩ ⟨xs, x, hq, hx⟩
    obtain ⟨its, rv, p, hz⟩ := I.tuple hq
    obtain ⟨u, hu, ru⟩ := rv.get hx
    have hel : e < s.heap.objs.size := Heap.lt_size he
    have hil : it < s.heap.objs.size := by
      obtain ⟨_, q, _⟩ := hit
      exact Heap.lt_size q
    have hlt : i < its.toArray.size := by
      have := (List.getElem?_eq_some_iff.mp hu).1
      simpa using this
    refine wpAny_pyNext_enum_itemD (Draws.tuple (A := X.A.in1) (I.ok.hd hc) it a n2 its.toArray) he ⟨hit, show s.heap.IsTuple a its.toArray from p⟩ hlt n1 (by simp [n1, n3]) fun y h1 tk hy ho hit1 hT hsz hk => ?_
    have ey : y = u := by
      have hy : its.toArray[i]? = some y := hy
      rw [show its.toArray[i]? = its[i]? by simp, hu] at hy
      exact (Option.some.inj hy).symm
    subst ey
    refine ⟨_, rfl, wpAny_letOwnedTupleGo_enum (s := { s with heap := h1, toks := tk + 1 }) ho fun h2 he2 sb => ?_⟩
    have hT2 : h2.get? s.heap.objs.size = some { cls := .type "tuple", data := .seq #[.int i tk, y] } := (sb.2 _ (Nat.ne_of_gt hel)).trans hT
    have new : ObjOk X.prog X.w (upd H s.heap.objs.size (.tup [.int (i : Nat), x])) h2 s.heap.objs.size (.tup [.int (i : Nat), x]) := ⟨maxLen_ok (show 2 ≤ maxLen by decide), [.int i tk, y], .cons ⟨_, rfl⟩ (.cons ru .nil), ⟨_, hT2, rfl, _, rfl⟩⟩
    have I1 : L2.Inv X pins σ (upd H s.heap.objs.size (.tup [.int (i : Nat), x])) { s with heap := h2, toks := tk + 1 } := I.turnedNew (ch := [e, it]) (fun b ob hb q => (sb.2 b fun z => hb (by simp [z])).trans (hk b ob (fun z => hb (by simp [z])) (fun z => hb (by simp [z])) q)) hf (Nat.le_refl _) new
    refine ⟨.ref s.heap.objs.size, _, I1, rfl, ⟨_, x, rfl, I.hok.fresh (Nat.le_refl _), rfl, fun ys hy => by rw [I.tuple_inj hy hq]; exact hx⟩, ⟨⟨y, ?_⟩, hit1.1.at fun o q => (sb.2 it (Ne.symm n1)).trans q, n1, n2, n3⟩, fun b hb => ?_⟩
    · rw [show ((i + 1 : Nat) : Int) = (i : Int) + 1 by omega]
      exact he2
    · have hb' : b < s.heap.objs.size := by
        rcases (show b = e ∨ b = it by simpa using hb) with rfl | rfl
        · exact hel
        · exact hil
      rw [upd_ne (Nat.ne_of_lt hb')]
      exact (hf b hb).1
  · rintro X rfl rfl rfl hc i pins s σ H E I hf ⟨⟨old, he⟩, hit, n1, n2, n3⟩ ⟨xs, hq, hx⟩
    obtain ⟨its, rv, p, hz⟩ := I.tuple hq
    obtain ⟨f0, f1, f2, f3, f4, f5⟩ := hf it (by simp)
    have hl : its.toArray.size = i := by
      rw [List.size_toArray, ← rv.length]
      exact hx
    refine wpAny_pyNext_enum_endD (Draws.tuple (A := X.A.in1) (I.ok.hd hc) it a n2 its.toArray) he ⟨by rw [hl]; exact hit, show s.heap.IsTuple a its.toArray from p⟩ fun h1 eb => ⟨rfl, I.turned (t' := s.toks) (fun b o hb q => eb b o hb q) f0 f1 f3 f4 f5⟩
  · obtain ⟨⟨_, he⟩, _⟩ := st
    exact wpAny_pyIter_enum he h
def iEnT (K : PySem.W.Frag) (ta : TA) : TI := fun σ H R => ta σ H fun vs H1 => ∃ a xs, vs = [.ref a] ∧ SqT K H1 a xs ∧ R (ItE K a) H1
section
variable {X : Cx} {a b c e : Expr} {es : List Expr} {fa fb fc f : FE} {pos : Pos}
theorem pi_enT {ta : TA} {p tpos : Pos} {elts : List Expr} {kk : Nat} (hg : Gl X "enumerate") (hm : X.mg "enumerate" = none) (ha : PA X [e] ta) (hs : starEach [e] X.env = [(false, eval e X.env)] := by rfl) :
    PI X (.Tuple elts kk tpos) (.Call (.Name "enumerate" p) [e] [] pos) (iEnT X.K ta) := by
  refine ⟨fun pins s σ H R I h => ?_⟩
  refine Call_ (ld_blt I hg hm boot_enumerate (PyProof.Rows.callWith_type1 (thn (ha.run pos pins s σ H _ I h) fun us s1 ⟨vs, H1, I1, r1, q1⟩ => ?_) hs rfl))
  obtain ⟨a, xs, rfl, hq, q⟩ := q1
  rw [Vals.ref1 r1]
  obtain ⟨its, rv, p', hz⟩ := I1.tuple hq
  have hlt : a < s1.heap.objs.size := by
    obtain ⟨o, ho, _⟩ := p'
    exact Heap.lt_size ho
  refine call_enum1 (begins_tuple a its.toArray) (show s1.heap.IsTuple a its.toArray from p') fun h1 he hit hsz hk => wpAny_pyIter_enum he ?_
  refine ⟨s1.heap.objs.size + 1, [s1.heap.objs.size + 1, s1.heap.objs.size], _, _, H1, rfl, I1.kept (h' := h1) (t' := s1.toks) hk, turn_enumT a (s1.heap.objs.size + 1) s1.heap.objs.size, ⟨⟨.none, he⟩, ⟨_, hit, rfl, rfl⟩, Nat.succ_ne_self _, Nat.ne_of_lt hlt, Nat.ne_of_gt (Nat.lt_succ_of_lt hlt)⟩, fun b hb => ?_, q⟩
  have hle : s1.heap.objs.size ≤ b := by
    rcases (show b = s1.heap.objs.size + 1 ∨ b = s1.heap.objs.size by simpa using hb) with z | z
    · rw [z]; exact Nat.le_succ _
    · rw [z]; exact Nat.le_refl _
  exact I1.fpOk hle (I1.hok.fresh hle)
/-- the pairs (i, x) -/
def enD (ds : List D) : List D := (List.range ds.length).zipWith (fun (i : Nat) d => D.tuple [.int (i : Int), d]) ds
theorem enD_len (ds : List D) : (enD ds).length = ds.length := by simp [enD]
theorem enD_get {ds : List D} {i : Nat} {d : D} (h : (enD ds)[i]? = some d) : ∃ e, ds[i]? = some e ∧ d = .tuple [.int (i : Int), e] := by
  have hl : i < ds.length := by
    have := (List.getElem?_eq_some_iff.mp h).1
    rwa [enD_len] at this
  refine ⟨ds[i], List.getElem?_eq_getElem hl, ?_⟩
  have e1 : (enD ds)[i]? = some (.tuple [.int (i : Int), ds[i]]) := by
    unfold enD
    rw [List.getElem?_zipWith]
    simp [hl]
  rw [e1] at h
  exact (Option.some.inj h).symm
def fEn (f : FE) : FA := fun env x => match f env x with
  | some (.list ds, x1) => some (enD ds, x1)
  | some (.tuple ds, x1) => some (enD ds, x1)
  | _ => none
theorem si_en {p tpos : Pos} {elts : List Expr} {kk : Nat} (hg : Gl X "enumerate") (hm : X.mg "enumerate" = none) (ha : SE X a fa) (hs : starEach [a] X.env = [(false, eval a X.env)] := by rfl) : SI X (.Tuple elts kk tpos) (.Call (.Name "enumerate" p) [a] [] pos) (fEn fa) := by
  refine ⟨⟨fun pins s σ H R I h2 => ?_⟩⟩
  obtain ⟨g, O, env, x, ds, x', S, e, k⟩ := h2
  unfold fEn at e
  split at e
  · rename_i ds' x1 e1
    cases e
    refine (pi_enum hg hm (pa_cons ha.out pa_nil hs) hs).run pins s σ H R I ⟨g, O, env, x, _, x', S, e1, fun v H1 S1 l1 r1 => ?_⟩
    cases r1 with
    | @lst p xs _ np hp rx =>
      refine ⟨p, xs, rfl, .of hp, k _ [(.ref p, .list ds')] H1 (S1.addg _ fun q hq => ?_) l1 fun O2 σ2 H2 env2 x2 i S2 => ?_⟩
      · rw [List.mem_singleton] at hq
        subst hq
        exact .lst np hp rx
      · have q := S2.gh (.ref p, .list ds') (by simp [FG.add])
        cases q with
        | @lst _ ys _ np2 hp2 ry =>
          refine ⟨fun d hd => ?_, fun hi => ⟨ys, .of hp2, by rw [ry.length, hi, enD_len]; exact Nat.le_refl _⟩⟩
          obtain ⟨d0, hd0, rfl⟩ := enD_get hd
          obtain ⟨y, e2, r2⟩ := ry.get hd0
          refine ⟨⟨ys, y, .of hp2, e2⟩, fun v H' hy => ?_⟩
          obtain ⟨T, x3, rfl, hT, rfl, hy⟩ := hy
          have e3 := hy ys (.of hp2)
          rw [e2] at e3
          cases e3
          have sm := same_upd (o := .tup [.int (i : Nat), y]) hT
          exact ⟨sm, .tup (S2.notO hT) upd_same (.cons (.int _) (.cons (r2.move (.of sm) .refl) .nil))⟩
  · rename_i ds' x1 e1
    cases e
    refine (pi_enT hg hm (pa_cons ha.out pa_nil hs) hs).run pins s σ H R I ⟨g, O, env, x, _, x', S, e1, fun v H1 S1 l1 r1 => ?_⟩
    cases r1 with
    | @tup p xs _ np hp rx =>
      refine ⟨p, xs, rfl, .of hp, k _ [(.ref p, .tuple ds')] H1 (S1.addg _ fun q hq => ?_) l1 fun O2 σ2 H2 env2 x2 i S2 => ?_⟩
      · rw [List.mem_singleton] at hq
        subst hq
        exact .tup np hp rx
      · have q := S2.gh (.ref p, .tuple ds') (by simp [FG.add])
        cases q with
        | @tup _ ys _ np2 hp2 ry =>
          refine ⟨fun d hd => ?_, fun hi => ⟨ys, .of hp2, by rw [ry.length, hi, enD_len]⟩⟩
          obtain ⟨d0, hd0, rfl⟩ := enD_get hd
          obtain ⟨y, e2, r2⟩ := ry.get hd0
          refine ⟨⟨ys, y, .of hp2, e2⟩, fun v H' hy => ?_⟩
          obtain ⟨T, x3, rfl, hT, rfl, hy⟩ := hy
          have e3 := hy ys (.of hp2)
          rw [e2] at e3
          cases e3
          have sm := same_upd (o := .tup [.int (i : Nat), y]) hT
          exact ⟨sm, .tup (S2.notO hT) upd_same (.cons (.int _) (.cons (r2.move (.of sm) .refl) .nil))⟩
  · cases e
end
end RT
namespace RT
open PySem PySem.Spec PyProof.Rows L2 PpSet
/-! ### dict comprehensions -/
def dcL (gt : FGt) (t : FT) (fk fv : FE) (env : FEn) : List D → List (D × D) → FRow → Option (List (D × D) × FRow)
  | [], acc, x => some (acc, x)
  | d :: ds, acc, x => match gt d env with
    | none => none
    | some e1 => match t e1 x with
      | some (true, x1) => match fk e1 x1 with
        | some (k, x2) => match dKey k with
          | some q => match fv e1 x2 with
            | some (v, x3) => if acc.length < maxLen then dcL gt t fk fv env ds (putD dKey acc k q v) x3 else none
            | none => none
          | none => none
        | none => none
      | some (false, x1) => dcL gt t fk fv env ds acc x1
      | none => none
def xDc (f : FA) (gt : FGt) (t : FT) (fk fv : FE) (vs : List Nat) : FX := fun env x => match f env x with
  | some (ds, x1) => match dcL gt t fk fv (wipeE env vs) ds [] x1 with
    | some (r, x2) => some (.ow (.dk r), x2)
    | none => none
  | none => none
/-! ### sets of ints -/
/-- without doubles, in the order of their coming -/
def nubI (ns : List Int) : List Int := ns.foldl (fun acc k => if k ∈ acc then acc else acc ++ [k]) []
theorem nub_fold : ∀ (ns acc : List Int), acc.Nodup → (ns.foldl (fun acc k => if k ∈ acc then acc else acc ++ [k]) acc).Nodup ∧ ∀ k, k ∈ ns.foldl (fun acc k => if k ∈ acc then acc else acc ++ [k]) acc ↔ k ∈ acc ∨ k ∈ ns
  | [], acc, h => ⟨h, fun k => by simp⟩
  | n :: ns, acc, h => by
    rw [List.foldl_cons]
    by_cases q : n ∈ acc
    · rw [if_pos q]
      obtain ⟨h1, h2⟩ := nub_fold ns acc h
      refine ⟨h1, fun k => ?_⟩
      rw [h2 k, List.mem_cons]
      constructor
      · rintro (z | z)
        · exact .inl z
        · exact .inr (.inr z)
      · rintro (z | z | z)
        · exact .inl z
        · exact .inl (z ▸ q)
        · exact .inr z
    · rw [if_neg q]
      have hn : (acc ++ [n]).Nodup := by
        rw [List.nodup_append]
        refine ⟨h, by simp, fun a ha b hb => ?_⟩
        rw [List.mem_singleton] at hb
        subst hb
        exact fun z => q (z ▸ ha)
      obtain ⟨h1, h2⟩ := nub_fold ns (acc ++ [n]) hn
      refine ⟨h1, fun k => ?_⟩
      rw [h2 k, List.mem_cons, List.mem_append, List.mem_singleton]
      constructor
      · rintro ((z | z) | z)
        · exact .inl z
        · exact .inr (.inl z)
        · exact .inr (.inr z)
      · rintro (z | z | z)
        · exact .inl (.inl z)
        · exact .inl (.inr z)
        · exact .inr z
theorem nubI_nd (ns : List Int) : (nubI ns).Nodup := (nub_fold ns [] .nil).1
theorem nubI_mem (ns : List Int) (k : Int) : k ∈ nubI ns ↔ k ∈ ns := by
  have h := (nub_fold ns [] .nil).2 k
  unfold nubI
  rw [h]
  simp
theorem le_nd_lt : ∀ {l : List Int}, l.Pairwise (· ≤ ·) → l.Nodup → l.Pairwise (· < ·)
  | [], _, _ => .nil
  | x :: l, h, nd => by
    have h' := List.pairwise_cons.mp h
    have n' := List.nodup_cons.mp nd
    exact List.pairwise_cons.mpr ⟨fun y hy => by
      have a := h'.1 y hy
      have b : x ≠ y := fun z => n'.1 (z ▸ hy)
      omega, le_nd_lt h'.2 n'.2⟩
/-- the set's list -/
def setI (ns : List Int) : List Int := sortI (nubI ns)
theorem setI_lt (ns : List Int) : (setI ns).Pairwise (· < ·) := le_nd_lt (sortI_sorted _) ((sortI_perm _).nodup_iff.mpr (nubI_nd ns))
theorem setI_mem (ns : List Int) (k : Int) : k ∈ setI ns ↔ k ∈ ns := by
  unfold setI
  rw [(sortI_perm _).mem_iff, nubI_mem]
theorem lt_uniq : ∀ {l m : List Int}, l.Pairwise (· < ·) → m.Pairwise (· < ·) → (∀ k, k ∈ l ↔ k ∈ m) → l = m
  | [], [], _, _, _ => rfl
  | [], y :: m, _, _, h => absurd ((h y).mpr List.mem_cons_self) (by simp)
  | x :: l, [], _, _, h => absurd ((h x).mp List.mem_cons_self) (by simp)
  | x :: l, y :: m, hl, hm, h => by
    have hl' := List.pairwise_cons.mp hl
    have hm' := List.pairwise_cons.mp hm
    have e : x = y := by
      have h1 := (h x).mp List.mem_cons_self
      have h2 := (h y).mpr List.mem_cons_self
      rcases List.mem_cons.mp h1 with e | e
      · exact e
      · rcases List.mem_cons.mp h2 with e2 | e2
        · exact e2.symm
        · have a := hm'.1 x e
          have b := hl'.1 y e2
          omega
    subst e
    rw [lt_uniq hl'.2 hm'.2 fun k => ?_]
    have hk := h k
    rw [List.mem_cons, List.mem_cons] at hk
    constructor
    · intro z
      rcases hk.mp (.inr z) with e | e
      · subst e
        have := hl'.1 k z
        omega
      · exact e
    · intro z
      rcases hk.mpr (.inr z) with e | e
      · subst e
        have := hm'.1 k z
        omega
      · exact e
abbrev FN := FEn → FRow → Option (List Int × FRow)
section
variable {X : Cx} {a b c e : Expr} {es : List Expr} {fa fb fc f : FE} {pos : Pos}
/-- sorted({..}) -/
def fSrtS (f : FN) : FE := fun env x => match f env x with
  | some (ns, x1) => some (.list ((setI ns).map .int), x1)
  | none => none
end
end RT
namespace RT
open PySem PySem.Spec PyProof.Rows L2
/-! ### sorted, of tuples of ints in 0 .. 63 of one length -/
def okTup (n : Nat) (ns : List Int) : Bool := decide (ns.length = n) && ns.all fun i => decide (0 ≤ i ∧ i < 64)
def tupsD (n : Nat) : List D → Option (List (List Int))
  | [] => some []
  | .tuple ds :: r => match intsD ds, tupsD n r with
    | some ns, some rs => if okTup n ns then some (ns :: rs) else none
    | _, _ => none
  | _ => none
def tupD (ns : List Int) : D := .tuple (ns.map .int)
theorem tupsD_ok {n : Nat} : ∀ {ds : List D} {rs : List (List Int)}, tupsD n ds = some rs → ds = rs.map tupD ∧ ∀ r ∈ rs, okTup n r = true
  | [], _, h => by cases h; exact ⟨rfl, fun r h => nomatch h⟩
  | d :: ds, rs, h => by
    unfold tupsD at h
    split at h
    · rename_i e; cases e
    · rename_i e
      cases e
      split at h
      · rename_i ns' rs' h1 h2
        split at h
        · rename_i h3
          cases h
          obtain ⟨a, b⟩ := tupsD_ok h2
          refine ⟨by rw [a, ints_ok h1]; rfl, fun r hr => ?_⟩
          rcases List.mem_cons.mp hr with rfl | hr
          · exact h3
          · exact b r hr
        · cases h
      · cases h
    · cases h
abbrev cdT (ns : List Int) : Int := TS.code 64 ns
def insT (n : List Int) : List (List Int) → List (List Int)
  | [] => [n]
  | m :: ms => if cdT n ≤ cdT m then n :: m :: ms else m :: insT n ms
def sortT : List (List Int) → List (List Int)
  | [] => []
  | n :: ns => insT n (sortT ns)
theorem insT_perm (n : List Int) : ∀ ms : List (List Int), (insT n ms).Perm (n :: ms)
  | [] => .refl _
  | m :: ms => by
    unfold insT
    split
    · exact .refl _
    · exact ((insT_perm n ms).cons m).trans (.swap n m ms)
theorem sortT_perm : ∀ ns : List (List Int), (sortT ns).Perm ns
  | [] => .refl _
  | n :: ns => (insT_perm n _).trans ((sortT_perm ns).cons n)
theorem insT_sorted (n : List Int) : ∀ ms : List (List Int), ms.Pairwise (fun a b => cdT a ≤ cdT b) → (insT n ms).Pairwise (fun a b => cdT a ≤ cdT b)
  | [], _ => by simp [insT]
  | m :: ms, h => by
    unfold insT
    have h' := List.pairwise_cons.mp h
    split
    · rename_i hn
      refine List.pairwise_cons.mpr ⟨fun a ha => ?_, h⟩
      rcases List.mem_cons.mp ha with rfl | ha
      · exact hn
      · exact Int.le_trans hn (h'.1 a ha)
    · rename_i hn
      refine List.pairwise_cons.mpr ⟨fun a ha => ?_, insT_sorted n ms h'.2⟩
      rcases List.mem_cons.mp ((insT_perm n ms).mem_iff.mp ha) with rfl | ha
      · omega
      · exact h'.1 a ha
theorem sortT_sorted : ∀ ns : List (List Int), (sortT ns).Pairwise (fun a b => cdT a ≤ cdT b)
  | [] => .nil
  | n :: ns => insT_sorted n _ (sortT_sorted ns)
theorem okTup_bd {n : Nat} {ns : List Int} (h : okTup n ns = true) : ns.length = n ∧ TS.Bd 64 ns := by
  unfold okTup at h
  rw [Bool.and_eq_true] at h
  exact ⟨of_decide_eq_true h.1, fun m hm => of_decide_eq_true (List.all_eq_true.mp h.2 m hm)⟩
theorem code_inj : ∀ {a b : List Int}, a.length = b.length → TS.Bd 64 a → TS.Bd 64 b → cdT a = cdT b → a = b
  | [], [], _, _, _, _ => rfl
  | [], _ :: _, h, _, _, _ => by simp at h
  | _ :: _, [], h, _, _, _ => by simp at h
  | x :: a, y :: b, h, ha, hb, e => by
    have hl : a.length = b.length := by simpa using h
    have exy : x = y := by
      by_cases h1 : x < y
      · have q := TS.code_lt hl ha.tail hb.tail h1
        have e : TS.code 64 (x :: a) = TS.code 64 (y :: b) := e
        omega
      · by_cases h2 : y < x
        · have q := TS.code_lt hl.symm hb.tail ha.tail h2
          have e : TS.code 64 (x :: a) = TS.code 64 (y :: b) := e
          omega
        · omega
    subst exy
    have e2 : cdT a = cdT b := by
      have e : x * 64 ^ a.length + TS.code 64 a = x * 64 ^ b.length + TS.code 64 b := e
      rw [hl] at e
      show TS.code 64 a = TS.code 64 b
      omega
    rw [code_inj hl ha.tail hb.tail e2]
theorem codes_uniq {n : Nat} : ∀ {l m : List (List Int)}, (∀ r ∈ l, okTup n r = true) → l.Perm m → l.Pairwise (fun a b => cdT a ≤ cdT b) → m.Pairwise (fun a b => cdT a ≤ cdT b) → l = m
  | [], m, _, h, _, _ => h.nil_eq
  | x :: l, [], _, h, _, _ => absurd h.length_eq (by simp)
  | x :: l, y :: m, ok, h, hl, hm => by
    have hl' := List.pairwise_cons.mp hl
    have hm' := List.pairwise_cons.mp hm
    have okm : ∀ r ∈ y :: m, okTup n r = true := fun r hr => ok r (h.mem_iff.mpr hr)
    have e : cdT x = cdT y := by
      have h1 : cdT y ≤ cdT x := by
        rcases List.mem_cons.mp (h.mem_iff.mp List.mem_cons_self) with e | e
        · rw [e]; exact Int.le_refl _
        · exact hm'.1 x e
      have h2 : cdT x ≤ cdT y := by
        rcases List.mem_cons.mp (h.mem_iff.mpr List.mem_cons_self) with e | e
        · rw [e]; exact Int.le_refl _
        · exact hl'.1 y e
      omega
    have exy : x = y := by
      obtain ⟨a1, a2⟩ := okTup_bd (ok x List.mem_cons_self)
      obtain ⟨b1, b2⟩ := okTup_bd (okm y List.mem_cons_self)
      exact code_inj (a1.trans b1.symm) a2 b2 e
    subst exy
    rw [codes_uniq (fun r hr => ok r (List.mem_cons_of_mem _ hr)) h.cons_inv hl'.2 hm'.2]
theorem RpA.perm {K : PySem.W.Frag} {O : Addr → Prop} {H : Hp} {xs ys : List V} (p : ys.Perm xs) : ∀ {ds : List D}, RpA K O H xs ds → ∃ es, es.Perm ds ∧ RpA K O H ys es := by
  induction p with
  | nil => exact fun r => ⟨_, .refl _, r⟩
  | cons x _ ih =>
    intro ds r
    cases r with
    | cons a b =>
      obtain ⟨es, p, q⟩ := ih b
      exact ⟨_, p.cons _, .cons a q⟩
  | swap x y l =>
    intro ds r
    cases r with
    | cons a r =>
      cases r with
      | cons b r => exact ⟨_, .swap _ _ _, .cons b (.cons a r)⟩
  | trans _ _ ih1 ih2 =>
    intro ds r
    obtain ⟨es, p, q⟩ := ih2 r
    obtain ⟨fs, p2, q2⟩ := ih1 q
    exact ⟨fs, p2.trans p, q2⟩
def gSortT : List D → Option D
  | [.list ds] => match ds with
    | .tuple xs :: _ => match tupsD xs.length ds with
      | some rs => if 1 ≤ xs.length ∧ rs.length < 64 then some (.list ((sortT rs).map tupD)) else none
      | none => none
    | [] => some (.list [])
    | _ => none
  | _ => none
section
variable {X : Cx} {a b c e : Expr} {es : List Expr} {fa fb fc f : FE} {pos : Pos}
theorem cr_sortTT : CallR X (.builtin "sorted") fun vs H Q => ∃ d, 1 ≤ d ∧ rSortU X.K d 64 vs H Q := by
  intro pins s σ H vs us Q I r h
  obtain ⟨d, hd, h⟩ := h
  exact cr_sortT hd pins s σ H vs us Q I r h
theorem cd_sortT : CallD X (.builtin "sorted") gSortT := by
  refine CallD.by (cr_sortedI.or cr_sortTT) fun g O σ env x ds z H vs Q S r e k => ?_
  unfold gSortT at e
  split at e
  · split at e
    · split at e
      · split at e
        · rename_i xs tl rest rs q hh
          cases e
          cases r with
          | cons r r' =>
            cases r'
            obtain ⟨p, ys, rfl, hp, rx⟩ := r.lst
            obtain ⟨e1, ok⟩ := tupsD_ok q
            have hlen : ys.length = rs.length := by rw [rx.length, e1, List.length_map]
            have itm : ∀ y d, Rp X.K O H y d → ∀ ns, d = tupD ns → TupI X.K H y ns := fun y d ry ns ed => by
              subst ed
              obtain ⟨t, us, rfl, ht, rt⟩ := ry.tupAt
              rw [rt.ints] at ht
              exact ⟨t, rfl, .of ht⟩
            refine .inr ⟨xs.length, hh.1, p, ys, rfl, .of hp, by rw [hlen]; exact hh.2, fun y hy => ?_, fun zs l hperm hsort hl => ?_⟩
            · obtain ⟨i, hi⟩ := List.getElem?_of_mem hy
              obtain ⟨d, hd, rd⟩ := rx.get' hi
              rw [e1] at hd
              obtain ⟨ns, hns, rfl⟩ := List.mem_map.mp (List.mem_of_getElem? hd)
              obtain ⟨b1, b2⟩ := okTup_bd (ok ns hns)
              exact ⟨ns, itm y _ rd ns rfl, b1, b2⟩
            · obtain ⟨es, pe, re⟩ := rx.perm hperm
              rw [e1] at pe
              obtain ⟨ms, rfl, pm⟩ : ∃ ms : List (List Int), es = ms.map tupD ∧ ms.Perm rs := by
                have hm : ∀ e ∈ es, ∃ ns, e = tupD ns := fun e he => by
                  obtain ⟨ns, _, q⟩ := List.mem_map.mp (pe.mem_iff.mp he)
                  exact ⟨ns, q.symm⟩
                have : ∀ es : List D, (∀ e ∈ es, ∃ ns, e = tupD ns) → ∃ ms : List (List Int), es = ms.map tupD := fun es => by
                  induction es with
                  | nil => exact fun _ => ⟨[], rfl⟩
                  | cons e es ih =>
                    intro h
                    obtain ⟨n, rfl⟩ := h e List.mem_cons_self
                    obtain ⟨m, rfl⟩ := ih fun e he => h e (List.mem_cons_of_mem _ he)
                    exact ⟨n :: m, rfl⟩
                obtain ⟨ms, rfl⟩ := this es hm
                refine ⟨ms, rfl, ?_⟩
                have key : ∀ l : List (List Int), (l.map tupD).map (fun d => match d with | .tuple ds => (intsD ds).getD [] | _ => []) = l := fun l => by
                  rw [List.map_map]
                  conv => rhs; rw [← List.map_id l]
                  refine List.map_congr_left fun a _ => ?_
                  show (intsD (a.map D.int)).getD [] = a
                  rw [ints_map]
                  rfl
                have := pe.map (fun d => match d with | D.tuple ds => (intsD ds).getD [] | _ => [])
                rw [key, key] at this
                exact this
              have srt : ms.Pairwise (fun a b => cdT a ≤ cdT b) := by
                have go : ∀ {zs : List V} {ms : List (List Int)}, RpA X.K O H zs (ms.map tupD) → zs.Pairwise (fun x y => ∀ n m, TupI X.K H x n → TupI X.K H y m → TS.code 64 n ≤ TS.code 64 m) → ms.Pairwise (fun a b => cdT a ≤ cdT b) := by
                  intro zs ms
                  induction ms generalizing zs with
                  | nil => exact fun _ _ => .nil
                  | cons m ms ih =>
                    intro rz hz
                    cases rz with
                    | cons a b =>
                      have hz' := List.pairwise_cons.mp hz
                      refine List.pairwise_cons.mpr ⟨fun m2 hm2 => ?_, ih b hz'.2⟩
                      obtain ⟨i, hi⟩ := List.getElem?_of_mem (List.mem_map.mpr ⟨m2, hm2, rfl⟩ : tupD m2 ∈ ms.map tupD)
                      obtain ⟨y, hy, ry⟩ := b.get hi
                      exact hz'.1 y (List.mem_of_getElem? hy) m m2 (itm _ _ a m rfl) (itm _ _ ry m2 rfl)
                exact go re hsort
              have e2 : ms = sortT rs := codes_uniq (fun r hr => ok r (pm.mem_iff.mp hr)) (pm.trans (sortT_perm rs).symm) srt (sortT_sorted rs)
              subst e2
              have sm := same_upd (o := .lst zs) hl
              exact k _ _ sm (.lst (S.notO hl) upd_same (re.move (.of sm) .refl))
        · cases e
      · cases e
    · cases e
      cases r with
      | cons r r' =>
        cases r'
        obtain ⟨p, ys, rfl, hp, rx⟩ := r.lst
        cases rx
        refine .inl ⟨p, [], rfl, .of hp, fun ns' l h1 h2 hl => ?_⟩
        have e2 : ns' = [] := h1.eq_nil
        subst e2
        have sm := same_upd (o := .lst []) hl
        exact k _ _ sm (.lst (S.notO hl) upd_same .nil)
    · cases e
  · cases e
/-! ### xs.index(d) -/
def idxD (d : D) : List D → Option Nat
  | [] => none
  | z :: zs => if eqD z d then some 0 else (idxD d zs).map (· + 1)
theorem idxD_ok {d : D} : ∀ {ds : List D} {j : Nat}, idxD d ds = some j → ∃ z, (pyAll ds)[j]? = some z ∧ PyData.eqv z d.py = true ∧ ∀ (m : Nat) z', m < j → (pyAll ds)[m]? = some z' → PyData.eqv z' d.py = false
  | [], _, h => nomatch h
  | x :: ds, j, h => by
    unfold idxD at h
    split at h
    · rename_i q
      cases h
      refine ⟨x.py, by simp [pyAll], q, fun m z' hm => absurd hm (Nat.not_lt_zero m)⟩
    · rename_i q
      cases h2 : idxD d ds with
      | none => rw [h2] at h; cases h
      | some i =>
        rw [h2] at h
        cases h
        obtain ⟨z, a, b, c⟩ := idxD_ok h2
        refine ⟨z, by simpa [pyAll] using a, b, fun m z' hm hz => ?_⟩
        cases m with
        | zero =>
          have e : x.py = z' := by simpa [pyAll] using hz
          rw [← e]
          exact Bool.eq_false_iff.mpr q
        | succ m =>
          have hm : m + 1 < i + 1 := hm
          exact c m z' (by omega) (by simpa [pyAll] using hz)
def fIndex (fa fb : FE) : FE := fBin (fun l d => match l with
  | .list ds => if shapedD (.list ds) && shapedD d then match idxD d ds with
    | some j => some (.int (j : Nat))
    | none => none
    else none
  | _ => none) fa fb
theorem se_index {apos cpos : Pos} (hu : X.A.units + 65 < cLine) (ha : SB X a fa) (hb : SB X b fb)
    (hbase : attributeBase a "index" X.env (eval a X.env) = eval a X.env := by rfl)
    (hfew : ((backTo cpos (starEach (b :: []) X.env)).all (fun x => !x.1) && (backToKw cpos (keywordEach [] X.env)).all (fun x => x.1.isSome)
      && decide ((b :: []).length + ([] : List Keyword).length + (if ([] : List Keyword).isEmpty then 0 else 1) < 30)) = true := by rfl)
    (hline : (apos.endLine == cpos.line) = true := by rfl) (hss : starEach (b :: []) X.env = (false, eval b X.env) :: starEach [] X.env := by rfl) (hplain : (backTo cpos (starEach [] X.env)).any (·.1) = false := by rfl) :
    SE X (.Call (.Attribute a "index" apos) [b] [] cpos) (fIndex fa fb) := by
  refine ⟨PEw (pe_bm PySem.F.plainAttrs_list PySem.F.slot_list_index PySem.F.type_list_index (mt_indexD hu) ha.out (pa_cons hb.out pa_nil hss) hbase hfew hline hss hplain) fun σ H Q h => ?_⟩
  obtain ⟨g, O, env, x, d, x', S, e, k⟩ := h
  obtain ⟨da, x1, db, r, e1, e2, e3, rfl⟩ := fBin_some e
  split at e3
  · rename_i ds
    split at e3
    · rename_i sh
      split at e3
      · rename_i j ej
        cases e3
        obtain ⟨s1, s2⟩ := Bool.and_eq_true_iff.mp sh
        refine ⟨g, O, env, x, _, x1, S, e1, fun v H1 S1 l1 r1 => ?_⟩
        obtain ⟨p, xs, rfl, hp, rx⟩ := r1.lst
        refine ⟨.inl ⟨rfl, _, .of hp⟩, g, O, env, x1, _, x', S1, e2, fun w H2 S2 l2 r2 => ?_⟩
        obtain ⟨z, a1, a2, a3⟩ := idxD_ok ej
        have h3 := (RpB.step S1 l2 r1).dp s1
        simp only [shapedD, D.py] at s1 s2 h3
        exact ⟨p, w, db.py, pyAll ds, j, z, rfl, rfl, h3, r2.dp s2, s1, s2, a1, a2, a3, k _ _ S2 (l1.trans l2) (.int _)⟩
      · cases e3
    · cases e3
  · cases e3
end
/-! ### the law -/
def spLaw (K : PySem.W.Frag) (b : FS) (n : Nat) (seed : Int) : Sp := fun vs H Q _ => ∃ (T : List (Addr × Str)) (a : Addr) (ns : List Int) (x' : FRow), TOK K T ∧ LamX.Tabs T H ∧ vs = [.ref a] ∧ SqL K H a (ns.map V.int) ∧
  b (.no :: .rw :: List.replicate n .no) ⟨ns, 0, seed, 0⟩ = some (.rt (.bool true), x') ∧ ∀ H', Q (.bl true) H'
theorem ok_law {P : Program} {w : World} {K : PySem.W.Frag} {mg : Str → Option Value} {base : Heap} {x qual n0 n1 : Str} {st : Stmt} {rest : List Stmt} {f : Addr} {fd : FuncData} {more : List Str} {k : Nat} {b : FS} {seed : Int} {i1 i2 i3 : Nat} {p1 p2 p3 p4 p5 p6 pos : Pos}
    (F : Fun K x qual st f fd) (S : FnScope (n0 :: n1 :: more) [n0] (defScope st)) (hb : defBody st = .Assign [.Name n1 p1] (.List [.Name n0 p2, .Constant (.int 0) i1 p3, .Constant (.int seed) i2 p4, .Constant (.int 0) i3 p5] p6) pos :: rest)
    (hs : ∀ (cdv : Value) (A : Around) (outer : List Env) (s : Shared) (H : Hp) (E : XK),
      PS (cxOf CX0 P w K mg base (n0 :: n1 :: more) qual (defScope st) f cdv A outer s H E).nox (.Assign [.Name n1 p1] (.List [.Name n0 p2, .Constant (.int 0) i1 p3, .Constant (.int seed) i2 p4, .Constant (.int 0) i3 p5] p6) pos)
        (tAsg (tLst (tCons (tVar 0) (tCons (tC (.int 0)) (tCons (tC (.int seed)) (tCons (tC (.int 0)) tNil))))) (gName 1)))
    (h : ∀ (cdv : Value) (A : Around) (outer : List Env) (s : Shared) (H : Hp) (E : XK), Room k (A.deeper (envOfC qual (defScope st) s.heap.objs.size f cdv)) → SSs (cxOf CX0 P w K mg base (n0 :: n1 :: more) qual (defScope st) f cdv A outer s H E).nox rest b) :
    FnOk P w K mg base CX0 (k + 1) f fd [n0] (spLaw K b more.length seed) := by
  refine F.ok S (fun vs H Q E h => ?_) (fun cdv A outer s H vs Q E hr hsp => ?_)
  · obtain ⟨T, a, ns, x', _, _, rfl, _⟩ := h
    rfl
  · obtain ⟨T, a, ns, x', tk, tb, rfl, ha, e, q⟩ := hsp
    rw [hb]
    refine ⟨_, pss_cons (hs cdv A outer s H E) (h cdv A outer s H E hr).out, ?_⟩
    refine ⟨_, rfl, maxLen_ok (show 4 ≤ maxLen by decide), fun p hp => ?_⟩
    refine ⟨⟨fun z => z = p, noT (upd H p (.lst [.ref a, .int 0, .int seed, .int 0])), some p, [], T, w, none⟩, fun z => z = p, .no :: .rw :: List.replicate more.length .no, ⟨ns, 0, seed, 0⟩, .rt (.bool true), x', ?_, e, fun O' σ' H' v env' S' r => ?_⟩
    · have hnd : ∀ {i : Nat} {d : OwD}, (FSl.no :: FSl.rw :: List.replicate more.length FSl.no)[i]? ≠ some (.nd d) := fun {i d} z => by
        have z := List.mem_of_getElem? z
        simp at z
      refine ⟨fun _ h => h, fun _ h => .inl h, fun z hz => by rw [hz, upd_same]; exact True.intro, (fun a o _ e _ => (noT_some e).1), fun r hr => ?_, ?_, fun i s e h1 h2 => ?_, fun i j d d' a b ne h1 h2 h3 h4 => ?_, fun i j d d' a b h1 => absurd h1 hnd, fun i j d d' h1 => absurd h1 hnd, (fun r hr => nomatch hr), tb.ext (same_upd hp), tk, fun a o e => (noT_some e).2, rfl⟩
      · have e : p = r := Option.some.inj hr
        subst e
        refine ⟨rfl, (by show noT (upd H p (.lst [V.ref a, V.int 0, V.int seed, V.int 0])) p ≠ none; rw [noT_of upd_same rfl]; exact fun z => nomatch z), a, upd_same, ?_⟩
        rcases ha with (ha | ⟨o, ha⟩) | ha
        · exact .inl ⟨ne_of_none ha hp, .inl (by rw [upd_ne (ne_of_none ha hp)]; exact ha)⟩
        · exact .inl ⟨ne_of_none ha hp, .inr ⟨o, by rw [upd_ne (ne_of_none ha hp)]; exact ha⟩⟩
        · exact .inr (.inr ha)
      · simp [gName, L2.start]
      · cases i with
        | zero =>
          have e2 := Option.some.inj h2
          subst e2
          exact .no _
        | succ i =>
          cases i with
          | zero =>
            have e2 := Option.some.inj h2
            subst e2
            have e1 := Option.some.inj h1
            subst e1
            exact .rw ⟨rfl, rfl⟩
          | succ i =>
            have h2 : (List.replicate more.length FSl.no)[i]? = some e := by simpa using h2
            have := (List.mem_replicate.mp (List.mem_of_getElem? h2)).2
            subst this
            exact .no _
      · have at1 : ∀ {i : Nat} {d : OwD}, (FSl.no :: FSl.rw :: List.replicate more.length FSl.no)[i]? ≠ some (.ow d) := fun {i d} z => by
          have z := List.mem_of_getElem? z
          simp at z
        exact absurd h1 at1
    · cases r
      exact q H'
end RT
namespace RT
open PySem PySem.Spec PyProof.Rows L2
/-! ### several stores at once -/
inductive VsOk (K : PySem.W.Frag) (g : FG) (O' : Addr → Prop) (H H' : Hp) : List V → List FSl → Prop
  | nil : VsOk K g O' H H' [] []
  | cons {v : V} {sl : FSl} {vs : List V} {sls : List FSl} : SlOk K g O' H' (some v) sl → (∀ d, sl = .ow d → ∃ p, v = .ref p ∧ Gone H p ∧ ∀ (i : Nat) d', sls[i]? = some (.ow d') → vs[i]? ≠ some (.ref p)) → (∀ d, sl ≠ .nd d) → VsOk K g O' H H' vs sls → VsOk K g O' H H' (v :: vs) (sl :: sls)
abbrev FXs := FEn → FRow → Option (List FSl × FRow)
def tXs (ω : World) (K : PySem.W.Frag) (f : FXs) : TA := fun σ H Q => ∃ g O env x sls x', FSt ω K g O σ H env x ∧ f env x = some (sls, x') ∧
  ∀ O' vs H', FSt ω K g O' σ H' env x' → Le g H H' → Wid O O' H → (∀ a, O a → O' a) → VsOk K g O' H H' vs sls → Q vs H'
structure SXs (X : Cx) (es : List Expr) (f : FXs) : Prop where
  out : PA X es (tXs X.w X.K f)
def xsNil : FXs := fun _ x => some ([], x)
def xsCons (f : FX) (h : FXs) : FXs := fun env x => match f env x with
  | some (sl, x1) => match h env x1 with
    | some (sls, x2) => some (sl :: sls, x2)
    | none => none
  | none => none
section
variable {ω : World} {K : PySem.W.Frag} {g : FG} {O O' : Addr → Prop} {σ : L2.St} {H H' H1 : Hp} {env : FEn} {x x' : FRow}
theorem VsOk.at {vs : List V} {sls : List FSl} (h : VsOk K g O' H H' vs sls) : ∀ (i : Nat) d, sls[i]? = some (.ow d) → ∃ p, vs[i]? = some (.ref p) ∧ Gone H p := by
  induction h with
  | nil => intro i d e; simp at e
  | cons r n _ _ ih =>
    intro i d e
    cases i with
    | zero =>
      obtain ⟨p, e1, e2, _⟩ := n d (Option.some.inj e)
      subst e1
      exact ⟨p, rfl, e2⟩
    | succ i => exact ih i d (by simpa using e)
theorem VsOk.base {vs : List V} {sls : List FSl} (h : VsOk K g O' H1 H' vs sls) (k : ∀ p, Gone H1 p → Gone H p) : VsOk K g O' H H' vs sls := by
  induction h with
  | nil => exact .nil
  | cons r n m _ ih => exact .cons r (fun d e => let ⟨p, a, b, c⟩ := n d e; ⟨p, a, k p b, c⟩) m ih
theorem VsOk.length {vs : List V} {sls : List FSl} (h : VsOk K g O' H H' vs sls) : vs.length = sls.length := by
  induction h with
  | nil => rfl
  | cons _ _ _ _ ih => rw [List.length_cons, List.length_cons, ih]
def setsV (σ : L2.St) : List Nat → List V → L2.St
  | i :: is, v :: vs => setsV (σ.set i (some v)) is vs
  | _, _ => σ
def setsE (env : FEn) : List Nat → List FSl → FEn
  | i :: is, s :: ss => setsE (env.set i s) is ss
  | _, _ => env
theorem FSt.sets {vs : List V} {sls : List FSl} (v : VsOk K g O' H H' vs sls) : ∀ {σ : L2.St} {env : FEn} (is : List Nat), FSt ω K g O' σ H' env x' → (∀ (i : Nat) d p, sls[i]? = some (.ow d) → vs[i]? = some (.ref p) → ∀ (j : Nat) d' b, env[j]? = some (.ow d') → σ[j]? = some (some (.ref b)) → b ≠ p) → (∀ (i : Nat) d p, sls[i]? = some (.ow d) → vs[i]? = some (.ref p) → ∀ (j : Nat) d' b, env[j]? = some (.nd d') → σ[j]? = some (some (.ref b)) → p ≠ b ∧ ¬ Inn H' b p) → FSt ω K g O' (setsV σ is vs) H' (setsE env is sls) x' := by
  induction v with
  | nil => intro σ env is S _ _; cases is <;> exact S
  | @cons v sl vs sls r n nn hv ih =>
    intro σ env is S hn hm
    cases is with
    | nil => exact S
    | cons i is =>
      refine ih is (S.setv i r (fun d e => ?_) nn fun d z p ep j d' b h1 h2 => hm 0 d p (by rw [z]; rfl) (by rw [ep]; rfl) j d' b h1 h2) (fun j d p e1 e2 k d' b e3 e4 => ?_) fun j d p e1 e2 k d' b e3 e4 => ?_
      rotate_right
      · rcases set_at e3 with ⟨z1, z2⟩ | ⟨z1, z2⟩
        · exact absurd z2.symm (nn d')
        · rcases set_at e4 with ⟨z3, z4⟩ | ⟨z3, z4⟩
          · exact absurd z3 z1
          · exact hm (j + 1) d p (by simpa using e1) (by simpa using e2) k d' b z2 z4
      · obtain ⟨p, e1, e2, _⟩ := n d e
        subst e1
        exact ⟨p, rfl, fun j d' b h1 h2 => hn 0 d p (by rw [e]; rfl) rfl j d' b h1 h2⟩
      · rcases set_at e3 with ⟨z1, z2⟩ | ⟨z1, z2⟩
        · rcases set_at e4 with ⟨z3, z4⟩ | ⟨z3, z4⟩
          · obtain ⟨q, e5, e6, e7⟩ := n d' z2.symm
            have z4 : V.ref b = v := Option.some.inj z4
            rw [e5] at z4
            cases z4
            exact fun z => e7 j d e1 (by rw [z]; exact e2)
          · exact absurd z1 z3
        · rcases set_at e4 with ⟨z3, z4⟩ | ⟨z3, z4⟩
          · exact absurd z3 z1
          · exact hn (j + 1) d p (by simpa using e1) (by simpa using e2) k d' b z2 z4
end
section
variable {X : Cx} {a b c e : Expr} {es : List Expr} {fa fb fc f : FE} {pos : Pos}
theorem sxs_nil : SXs X [] xsNil := by
  refine ⟨PAw pa_nil fun σ H Q h => ?_⟩
  obtain ⟨g, O, env, x, d, x', S, e, k⟩ := h
  cases e
  exact k O _ _ S (Le.refl _ _) .refl (fun _ h => h) .nil
theorem sxs_cons {f : FX} {t : FXs} (h : SX X e f) (ht : SXs X es t) (hs : starEach (e :: es) X.env = (false, eval e X.env) :: starEach es X.env := by rfl) : SXs X (e :: es) (xsCons f t) := by
  refine ⟨PAw (pa_cons h.out ht.out hs) fun σ H Q h => ?_⟩
  obtain ⟨g, O, env, x, sl, x', S, e, k⟩ := h
  unfold xsCons at e
  split at e
  · rename_i s1 x1 e1
    split at e
    · rename_i ss x2 e2
      cases e
      refine ⟨g, O, env, x, s1, x1, S, e1, fun O1 v H1 S1 l1 w1 sub1 r1 n1 => ⟨g, O1, env, x1, ss, x', S1, e2, fun O2 vs H2 S2 l2 w2 sub2 r2 => ?_⟩⟩
      refine k O2 _ H2 S2 (l1.trans l2) (fun a ha => ?_) (fun a ha => sub2 a (sub1 a ha)) (.cons (sl_move S1 l2 w2 sub2 r1) (fun d z => ?_) n1.nn (r2.base fun p hp => Le.gone l1 hp S1))
      · rcases w2 a ha with z | z
        · exact w1 a z
        · exact .inr (Le.gone l1 z S1)
      · obtain ⟨p, e3, hp⟩ := n1.ow d z
        subst e3
        refine ⟨p, rfl, hp, fun i d' e4 e5 => ?_⟩
        obtain ⟨q, e6, hq⟩ := r2.at i d' e4
        rw [e5] at e6
        cases e6
        subst z
        cases r1 with
        | ow _ _ _ t => exact t.live hq rfl
    · cases e
  · cases e
def sPars (is : List Nat) (f : FXs) : FS := fun env x => match f env x with
  | some (sls, x1) => if sls.length = is.length then some (.nx (setsE env is sls), x1) else none
  | none => none
theorem pars_read {ω : World} {K : PySem.W.Frag} {is : List Nat} {f : FXs} {Dn : Ends} {σ : L2.St} {H : Hp} (h : tS ω K (sPars is f) Dn σ H) : tXs ω K f σ H fun vs H' => vs.length = is.length ∧ (∃ g O env x, FSt ω K g O σ H' env x ∧ ∀ H2, Same H' H2 → Dn.nx (setsV σ is vs) H2) := by
  obtain ⟨g, O, env, x, r, x', S, e, k⟩ := h
  unfold sPars at e
  split at e
  · rename_i sls x1 e1
    split at e
    · rename_i hl
      cases e
      refine ⟨g, O, env, x, sls, x', S, e1, fun O' vs H' S' l w sub v => ⟨by rw [v.length, hl], g, O', env, x', S', fun H2 sm => ?_⟩⟩
      have hn : ∀ (i : Nat) d p, sls[i]? = some (.ow d) → vs[i]? = some (.ref p) → ∀ (j : Nat) d' b, env[j]? = some (.ow d') → σ[j]? = some (some (.ref b)) → b ≠ p := fun i d p h1 h2 j d' b h3 h4 => by
        obtain ⟨q, e2, hq⟩ := v.at i d h1
        rw [h2] at e2
        cases e2
        exact own_ne S hq h3 h4
      have hm : ∀ (i : Nat) d p, sls[i]? = some (.ow d) → vs[i]? = some (.ref p) → ∀ (j : Nat) d' b, env[j]? = some (.nd d') → σ[j]? = some (some (.ref b)) → p ≠ b ∧ ¬ Inn H' b p := fun i d p h1 h2 j d' b h3 h4 => by
        obtain ⟨q, e2, hq⟩ := v.at i d h1
        rw [h2] at e2
        cases e2
        exact own_nd S l hq h3 h4
      exact k O' _ H2 ((FSt.sets v is S' hn hm).same sm)
    · cases e
  · cases e
theorem ss_par2 {i j : Nat} {n m : Str} {f : FXs} {px py pt : Pos} {kt k2 pt2} (hc : X.calm = true) (hN : X.N.Nodup) (hi : X.N[i]? = some n) (hj : X.N[j]? = some m) (hij : i ≠ j)
    (hx : X.env.scope.names.lookup n = some .local) (hy : X.env.scope.names.lookup m = some .local) (ha : SXs X [a, b] f)
    (hw : swappedStores [.Tuple [.Name n px, .Name m py] kt pt] (.Tuple [a, b] k2 pt2) X.env = pure (some [n, m]))
    (hs : swapsWithSole [.Tuple [.Name n px, .Name m py] kt pt] (.Tuple [a, b] k2 pt2) pos.line X.env = pure false := by rfl) :
    SS X (.Assign [.Tuple [.Name n px, .Name m py] kt pt] (.Tuple [a, b] k2 pt2) pos) (sPars [i, j] f) := by
  refine ⟨PSw (ps_par hc hN hi hj hij hx hy ha.out hw hs) fun Dn σ H h => ?_⟩
  obtain ⟨g, O, env, x, sls, x', S, e, k⟩ := pars_read h
  refine ⟨g, O, env, x, sls, x', S, e, fun O' vs H' S' l w sub v => ?_⟩
  obtain ⟨hl, _, _, _, _, _, q⟩ := k O' vs H' S' l w sub v
  match vs, hl with
  | [v1, v2], _ => exact ⟨v1, v2, rfl, q H' (Same.refl _)⟩
theorem ss_par3 {i j l : Nat} {n m o : Str} {f : FXs} {px py pz pt : Pos} {kt k2 pt2} (hc : X.calm = true) (hN : X.N.Nodup) (hi : X.N[i]? = some n) (hj : X.N[j]? = some m) (hl : X.N[l]? = some o) (hij : i ≠ j) (hil : i ≠ l) (hjl : j ≠ l)
    (hx : X.env.scope.names.lookup n = some .local) (hy : X.env.scope.names.lookup m = some .local) (hz : X.env.scope.names.lookup o = some .local) (ha : SXs X [a, b, c] f)
    (hw : swappedStores [.Tuple [.Name n px, .Name m py, .Name o pz] kt pt] (.Tuple [a, b, c] k2 pt2) X.env = pure (some [n, m, o]))
    (hs : swapsWithSole [.Tuple [.Name n px, .Name m py, .Name o pz] kt pt] (.Tuple [a, b, c] k2 pt2) pos.line X.env = pure false := by rfl) :
    SS X (.Assign [.Tuple [.Name n px, .Name m py, .Name o pz] kt pt] (.Tuple [a, b, c] k2 pt2) pos) (sPars [i, j, l] f) := by
  refine ⟨PSw (ps_par3 hc hN hi hj hl hij hil hjl hx hy hz ha.out hw hs) fun Dn σ H h => ?_⟩
  obtain ⟨g, O, env, x, sls, x', S, e, k⟩ := pars_read h
  refine ⟨g, O, env, x, sls, x', S, e, fun O' vs H' S' l w sub v => ?_⟩
  obtain ⟨hl, _, _, _, _, _, q⟩ := k O' vs H' S' l w sub v
  match vs, hl with
  | [v1, v2, v3], _ => exact ⟨v1, v2, v3, rfl, q H' (Same.refl _)⟩
/-- by way of a tuple -/
inductive PNs (X : Cx) : List Nat → List Expr → Prop
  | nil : PNs X [] []
  | cons {i : Nat} {n : Str} {p : Pos} {is : List Nat} {es : List Expr} : X.N[i]? = some n → Loc X.env.scope n → (X.fn n = true ∨ X.env.scope.names.lookup n = some .local) → (assignEach (.Name n p :: es) X.env).map (·.2) = assign (.Name n p) X.env :: (assignEach es X.env).map (·.2) → PNs X is es → PNs X (i :: is) (.Name n p :: es)
def tNs : List Nat → TGs
  | [] => gNil
  | i :: is => gCons (gName i) (tNs is)
theorem pgs_ns {is : List Nat} {ts : List Expr} (hN : X.N.Nodup) (h : PNs X is ts) : PGs X ts (tNs is) := by
  induction h with
  | nil => exact pgs_nil
  | cons h1 h2 h3 h4 _ ih => exact pgs_cons (pg_name hN h1 h2 h3) ih h4
theorem ns_read : ∀ {is : List Nat} {vs : List V} {σ : L2.St} {H : Hp} {Q : L2.St → Hp → Prop}, vs.length = is.length → Q (setsV σ is vs) H → tNs is vs σ H Q
  | [], [], _, _, _, _, q => ⟨rfl, q⟩
  | [], _ :: _, _, _, _, h, _ => by simp at h
  | _ :: _, [], _, _, _, h, _ => by simp at h
  | i :: is, v :: vs, σ, H, Q, h, q => ⟨v, vs, rfl, ns_read (is := is) (by simpa using h) q⟩
theorem ss_parT {is : List Nat} {ts vs : List Expr} {f : FXs} {kt k2 : Nat} {pt pt2 : Pos} (hc : X.calm = true) (hN : X.N.Nodup) (hn : PNs X is ts) (ha : SXs X vs f) (hlen : is.length ≤ 100)
    (hn1 : (assignEach ts X.env).length = is.length) (hst : (assignEach ts X.env).findIdx? (·.1) = none)
    (hs : swapsWithSole [.Tuple ts kt pt] (.Tuple vs k2 pt2) pos.line X.env = pure false) (hw : swappedStores [.Tuple ts kt pt] (.Tuple vs k2 pt2) X.env = pure none)
    (h1 : (assignEach [.Tuple ts kt pt] X.env).map (·.2) = [assign (.Tuple ts kt pt) X.env]) : SS X (.Assign [.Tuple ts kt pt] (.Tuple vs k2 pt2) pos) (sPars is f) := by
  refine ⟨PSw (ps_asg (pe_tup ha.out) (pg_tup hc (pgs_ns hN hn) hn1 hst) hs hw h1) fun Dn σ H h => ?_⟩
  obtain ⟨g, O, env, x, sls, x', S, e, k⟩ := pars_read h
  refine ⟨g, O, env, x, sls, x', S, e, fun O' vs H' S' l w sub v => ?_⟩
  obtain ⟨hl, _, _, _, _, _, q⟩ := k O' vs H' S' l w sub v
  refine ⟨maxLen_ok (Nat.le_trans (show vs.length ≤ 100 by rw [hl]; exact hlen) (by decide)), fun p hp => ?_⟩
  exact ⟨p, vs, rfl, .of upd_same, hl, ns_read hl (q _ (same_upd hp))⟩
/-! ### subscripts and in, whatever the thing is -/
def gAt : D → D → Option D
  | .list ds, .int i => atI ds i
  | .tuple ds, .int i => atI ds i
  | .dict kvs, k => gDAt (.dict kvs) k
  | .dictT kvs, k => gDAt (.dictT kvs) k
  | _, _ => none
theorem fBin_of {gd : D → D → Option D} {fa fb : FE} {env : FEn} {x x1 : FRow} {d e r : D} {x2 : FRow} (h1 : fa env x = some (d, x1)) (h2 : fb env x1 = some (e, x2)) (h3 : gd d e = some r) : fBin gd fa fb env x = some (r, x2) := by
  unfold fBin
  rw [h1]
  dsimp only
  rw [h2]
  dsimp only
  rw [h3]
theorem se_at (hu : X.A.units + 1 < cLine) (ha : SB X a fa) (hb : SB X b fb) (hs : PlainIx b := by exact fun _ _ => rfl) (hs2 : NoSl b := by exact fun _ _ => rfl) : SE X (.Subscript a b pos) (fBin gAt fa fb) := by
  refine ⟨⟨fun pins s σ H Q I h => ?_⟩⟩
  obtain ⟨g, O, env, x, d, x', S, e, k⟩ := h
  obtain ⟨da, x1, db, r, e1, e2, e3, rfl⟩ := fBin_some e
  have ix : ∀ r, gIx da db = some r → r = r := fun _ _ => rfl
  unfold gAt at e3
  split at e3
  · exact (se_ix ha hb hs).out.run pins s σ H Q I ⟨g, O, env, x, _, x', S, fBin_of e1 e2 (show gIx (.list _) (.int _) = some _ from e3), k⟩
  · exact (se_ix ha hb hs).out.run pins s σ H Q I ⟨g, O, env, x, _, x', S, fBin_of e1 e2 (show gIx (.tuple _) (.int _) = some _ from e3), k⟩
  · exact (se_dget hu ha hb hs2).out.run pins s σ H Q I ⟨g, O, env, x, _, x', S, fBin_of e1 e2 e3, k⟩
  · exact (se_dget hu ha hb hs2).out.run pins s σ H Q I ⟨g, O, env, x, _, x', S, fBin_of e1 e2 e3, k⟩
  · cases e3
/-! x in a tuple -/
def rInDT (K : PySem.W.Frag) : R2 := fun x y H Q => ∃ d ds, Dp K H x d ∧ Dp K H y (.tuple ds) ∧ SeqAt.shaped d = true ∧ SeqAt.shaped (.tuple ds) = true ∧ Q (.bl (ds.any fun z => PyData.eqv z d)) H
def rNotInDT (K : PySem.W.Frag) : R2 := fun x y H Q => ∃ d ds, Dp K H x d ∧ Dp K H y (.tuple ds) ∧ SeqAt.shaped d = true ∧ SeqAt.shaped (.tuple ds) = true ∧ Q (.bl (!ds.any fun z => PyData.eqv z d)) H
theorem op_inDT (hu : X.A.units + 65 < cLine) : OpR X (compareOp .In) (rInDT X.K) := fun pins s σ H x y v u Q I rx ry ⟨d, ds, hd, he, sd, se, q⟩ =>
  have ⟨_, r1⟩ := Dp.reads I d x v hd rx
  have ⟨_, r2⟩ := Dp.reads I (.tuple ds) y u he ry
  SeqAt.in_tuple_reads r2 r1 (SeqAt.canLay_of_shaped se) (SeqAt.canLay_of_shaped sd) (room_in_shaped sd hu) ⟨.bl _, H, I, rfl, q⟩
theorem op_notInDT (hu : X.A.units + 65 < cLine) : OpR X (compareOp .NotIn) (rNotInDT X.K) := fun pins s σ H x y v u Q I rx ry ⟨d, ds, hd, he, sd, se, q⟩ =>
  have ⟨_, r1⟩ := Dp.reads I d x v hd rx
  have ⟨_, r2⟩ := Dp.reads I (.tuple ds) y u he ry
  SeqAt.notIn_tuple_reads r2 r1 (SeqAt.canLay_of_shaped se) (SeqAt.canLay_of_shaped sd) (room_in_shaped sd hu) ⟨.bl _, H, I, rfl, q⟩
def gInT : D → D → Option D := fun d e => match e with
  | .tuple ds => if shapedD d && shapedD (.tuple ds) then some (.bool (ds.any fun z => eqD z d)) else none
  | _ => none
def gNotInT : D → D → Option D := fun d e => match e with
  | .tuple ds => if shapedD d && shapedD (.tuple ds) then some (.bool (!ds.any fun z => eqD z d)) else none
  | _ => none
theorem od_inT (hu : X.A.units + 65 < cLine) : OpD X (compareOp .In) gInT := by
  refine OpD.by (op_inDT hu) fun g O σ env x d e z H v w Q S rv rw q k => ?_
  unfold gInT at q
  split at q
  · rename_i ds
    split at q
    · rename_i h
      cases q
      obtain ⟨h1, h2⟩ := Bool.and_eq_true_iff.mp h
      have h3 := rw.dp h2
      simp only [shapedD, D.py] at h1 h2 h3
      refine ⟨d.py, pyAll ds, rv.dp h1, h3, h1, h2, ?_⟩
      rw [any_py]
      exact k _ _ (Same.refl _) (.bl _)
    · cases q
  · cases q
theorem od_notInT (hu : X.A.units + 65 < cLine) : OpD X (compareOp .NotIn) gNotInT := by
  refine OpD.by (op_notInDT hu) fun g O σ env x d e z H v w Q S rv rw q k => ?_
  unfold gNotInT at q
  split at q
  · rename_i ds
    split at q
    · rename_i h
      cases q
      obtain ⟨h1, h2⟩ := Bool.and_eq_true_iff.mp h
      have h3 := rw.dp h2
      simp only [shapedD, D.py] at h1 h2 h3
      refine ⟨d.py, pyAll ds, rv.dp h1, h3, h1, h2, ?_⟩
      rw [any_py]
      exact k _ _ (Same.refl _) (.bl _)
    · cases q
  · cases q
def gInA : D → D → Option D := fun d e => match e with
  | .list ds => gIn d (.list ds)
  | .tuple ds => gInT d (.tuple ds)
  | .dict kvs => gDIn d (.dict kvs)
  | .dictT kvs => gDIn d (.dictT kvs)
  | _ => none
def gNotInA : D → D → Option D := fun d e => match e with
  | .list ds => gNotIn d (.list ds)
  | .tuple ds => gNotInT d (.tuple ds)
  | .dict kvs => gDNotIn d (.dict kvs)
  | .dictT kvs => gDNotIn d (.dictT kvs)
  | _ => none
theorem se_inA (hu : X.A.units + 65 < cLine) (ha : SB X a fa) (hb : SB X b fb) (hm : behindInMarks .In b = false := by rfl) : SE X (.Compare a [.In] [b] pos) (fBin gInA fa fb) := by
  refine ⟨⟨fun pins s σ H Q I h => ?_⟩⟩
  obtain ⟨g, O, env, x, d, x', S, e, k⟩ := h
  obtain ⟨da, x1, db, r, e1, e2, e3, rfl⟩ := fBin_some e
  unfold gInA at e3
  split at e3
  · exact (se_cmp (od_in hu) ha hb hm).out.run pins s σ H Q I ⟨g, O, env, x, _, x', S, fBin_of e1 e2 e3, k⟩
  · exact (se_cmp (od_inT hu) ha hb hm).out.run pins s σ H Q I ⟨g, O, env, x, _, x', S, fBin_of e1 e2 e3, k⟩
  · exact (se_din (by omega) ha hb hm).out.run pins s σ H Q I ⟨g, O, env, x, _, x', S, fBin_of e1 e2 e3, k⟩
  · exact (se_din (by omega) ha hb hm).out.run pins s σ H Q I ⟨g, O, env, x, _, x', S, fBin_of e1 e2 e3, k⟩
  · cases e3
theorem fTst_of {f : FE} {env : FEn} {x x' : FRow} {b : Bool} (h : f env x = some (.bool b, x')) : fTst f env x = some (b, x') := by
  unfold fTst
  rw [h]
theorem st_inA (hu : X.A.units + 65 < cLine) (ha : SB X a fa) (hb : SB X b fb) (hm : behindInMarks .In b = false := by rfl) : ST X (.Compare a [.In] [b] pos) (fTst (fBin gInA fa fb)) := by
  refine ⟨⟨fun pins s σ H Q I h => ?_⟩⟩
  obtain ⟨g, O, env, x, d, x', S, e, k⟩ := h
  obtain ⟨da, x1, db, r, e1, e2, e3, e4⟩ := fBin_some (fTst_some e)
  have e4 : r = .bool d := e4
  subst e4
  have e2 : fb env x1 = some (db, x') := e2
  unfold gInA at e3
  split at e3
  · exact (st_cmp (od_in hu) ha hb hm).out.run pins s σ H Q I ⟨g, O, env, x, _, x', S, fTst_of (fBin_of e1 e2 e3), k⟩
  · exact (st_cmp (od_inT hu) ha hb hm).out.run pins s σ H Q I ⟨g, O, env, x, _, x', S, fTst_of (fBin_of e1 e2 e3), k⟩
  · exact (st_din (by omega) ha hb hm).out.run pins s σ H Q I ⟨g, O, env, x, _, x', S, fTst_of (fBin_of e1 e2 e3), k⟩
  · exact (st_din (by omega) ha hb hm).out.run pins s σ H Q I ⟨g, O, env, x, _, x', S, fTst_of (fBin_of e1 e2 e3), k⟩
  · cases e3
theorem st_notInA (hu : X.A.units + 65 < cLine) (ha : SB X a fa) (hb : SB X b fb) (hm : behindInMarks .NotIn b = false := by rfl) : ST X (.Compare a [.NotIn] [b] pos) (fTst (fBin gNotInA fa fb)) := by
  refine ⟨⟨fun pins s σ H Q I h => ?_⟩⟩
  obtain ⟨g, O, env, x, d, x', S, e, k⟩ := h
  obtain ⟨da, x1, db, r, e1, e2, e3, e4⟩ := fBin_some (fTst_some e)
  have e4 : r = .bool d := e4
  subst e4
  have e2 : fb env x1 = some (db, x') := e2
  unfold gNotInA at e3
  split at e3
  · exact (st_cmp (od_notIn hu) ha hb hm).out.run pins s σ H Q I ⟨g, O, env, x, _, x', S, fTst_of (fBin_of e1 e2 e3), k⟩
  · exact (st_cmp (od_notInT hu) ha hb hm).out.run pins s σ H Q I ⟨g, O, env, x, _, x', S, fTst_of (fBin_of e1 e2 e3), k⟩
  · exact (st_dnot (by omega) ha hb hm).out.run pins s σ H Q I ⟨g, O, env, x, _, x', S, fTst_of (fBin_of e1 e2 e3), k⟩
  · exact (st_dnot (by omega) ha hb hm).out.run pins s σ H Q I ⟨g, O, env, x, _, x', S, fTst_of (fBin_of e1 e2 e3), k⟩
  · cases e3
/-- < of tuples of ints -/
def gLtT : D → D → Option D
  | .tuple xs, .tuple ys => match intsD xs, intsD ys with
    | some ns, some ms => some (.bool (HT.lexLt ns ms))
    | _, _ => none
  | _, _ => none
theorem od_ltT (hu : X.A.units < cLine) : OpD X (compareOp .Lt) gLtT := by
  refine OpD.by (op_ltT hu) fun g O σ env x d e z H v w Q S rv rw q k => ?_
  unfold gLtT at q
  split at q
  · split at q
    · rename_i xs ys ns ms h1 h2
      cases q
      obtain ⟨p, us, rfl, hp, r1⟩ := rv.tup.tupAt
      obtain ⟨p2, us2, rfl, hp2, r2⟩ := rw.tup.tupAt
      rw [ints_ok h1] at r1
      rw [ints_ok h2] at r2
      rw [r1.ints] at hp
      rw [r2.ints] at hp2
      exact ⟨p, p2, ns, ms, rfl, rfl, .of hp, .of hp2, k _ _ (Same.refl _) (.bl _)⟩
    · cases q
  · cases q
def gLt : D → D → Option D := gOr (gI yes2 fun i j => .bool (decide (i < j))) gLtT
theorem od_ltA (hu : X.A.units < cLine) : OpD X (compareOp .Lt) gLt := od_lt.or (od_ltT hu)
def gAdd : D → D → Option D := gOr gAddI (gOr gCatT gCatL)
theorem od_addA : OpD X (binaryOp .Add) gAdd := od_add.or (od_catT.or od_catL)
def gMul : D → D → Option D := gOr gMulI gRepL
theorem od_mulA : OpD X (binaryOp .Mult) gMul := od_mul.or od_repL
def cOr (g1 g2 : List D → Option D) : List D → Option D := fun ds => match g1 ds with
  | some r => some r
  | none => g2 ds
theorem CallD.or {f : Value} {g1 g2 : List D → Option D} (h1 : CallD X f g1) (h2 : CallD X f g2) : CallD X f (cOr g1 g2) := by
  intro pins s σ H vs us Q I rv h
  obtain ⟨g, O, σ', env, x, ds, z, S, rr, e, k⟩ := h
  unfold cOr at e
  split at e
  · rename_i r' q'
    cases e
    exact h1 pins s σ H vs us Q I rv ⟨g, O, σ', env, x, ds, z, S, rr, q', k⟩
  · exact h2 pins s σ H vs us Q I rv ⟨g, O, σ', env, x, ds, z, S, rr, e, k⟩
def gSort : List D → Option D := cOr gSortI gSortT
theorem cd_sortA : CallD X (.builtin "sorted") gSort := cd_sorted.or cd_sortT
/-- x += e, ints -/
def sAug (i : Nat) (f : FE) : FS := fun env x => match env[i]? with
  | some (.va (.int m)) => match f env x with
    | some (.int n, x1) => some (.nx (env.set i (.va (.int (m + n)))), x1)
    | _ => none
  | _ => none
def sDrop (f : FE) : FS := fun env x => match f env x with
  | some (_, x1) => some (.nx env, x1)
  | none => none
theorem ss_drop (h : SE X e f) (hs : swapsWith e none pos.line X.env = pure false := by rfl) : SS X (.Expr e pos) (sDrop f) := by
  refine ⟨PSw (ps_expr h.out hs) fun Dn σ H h => ?_⟩
  obtain ⟨g, O, env, x, r, x', S, e, k⟩ := h
  unfold sDrop at e
  split at e
  · rename_i d x1 e1
    cases e
    exact ⟨g, O, env, x, d, x', S, e1, fun v H1 S1 l1 r1 => k O σ H1 S1⟩
  · cases e
/-- a def that is never asked -/
theorem ok_none {P : Program} {w : World} {K : PySem.W.Frag} {mg : Str → Option Value} {base : Heap} {k : Nat} {f : Addr} {fd : FuncData} {ps : List Str} : FnOk P w K mg base CX0 k f fd ps (spF K fun _ => none) :=
  ⟨fun vs H Q E h => (let ⟨_, _, _, _, _, _, _, _, e, _⟩ := h; nomatch e), fun A outer s H args us vs Q E hr he hb hv h => (let ⟨_, _, _, _, _, _, _, _, e, _⟩ := h; nomatch e)⟩
theorem room65 {k : Nat} {A : Around} (r : Room k A) : A.units + 65 < cLine := by
  have := r.un
  omega
end
end RT
namespace RT
open PySem PySem.Spec PyProof.Rows L2
/-! ### comprehensions with two fors -/
/-- a target that makes no slot owned -/
def TgOk (gt : FGt) : Prop := ∀ d env env', gt d env = some env' → ∀ (j : Nat) (w : FSl), env'[j]? = some w → isOwn w = true → env[j]? = some w
def TgsOk (h : FGs) : Prop := ∀ ds env env', h ds env = some env' → ∀ (j : Nat) (w : FSl), env'[j]? = some w → isOwn w = true → env[j]? = some w
theorem tg_name (i : Nat) : TgOk (gtName i) := fun d env env' e j w h h0 => by
  cases e
  rw [List.getElem?_set] at h
  split at h
  · split at h
    · cases h; cases h0
    · cases h
  · exact h
theorem tgs_nil : TgsOk gtNil := fun ds env env' e j w h h0 => by
  cases ds with
  | nil => cases e; exact h
  | cons a l => cases e
theorem tgs_cons {f : FGt} {h : FGs} (a : TgOk f) (b : TgsOk h) : TgsOk (gtCons f h) := fun ds env env' e j w hh h0 => by
  cases ds with
  | nil => cases e
  | cons d l =>
    unfold gtCons at e
    simp only at e
    split at e
    · rename_i e1 q
      exact a d env e1 q j w (b l e1 env' e j w hh h0) h0
    · cases e
theorem tg_tup {n : Nat} {h : FGs} (b : TgsOk h) : TgOk (gtTup n h) := fun d env env' e j w hh h0 => by
  unfold gtTup at e
  split at e
  · split at e
    · exact b _ env env' e j w hh h0
    · cases e
  · cases e
def compL2 (gt : FGt) (t : FT) (f1 : FA) (gt1 : FGt) (t1 : FT) (fe : FE) (vs1 : List Nat) (env : FEn) : List D → FRow → Option (List D × FRow)
  | [], x => some ([], x)
  | d :: ds, x => match gt d env with
    | none => none
    | some e1 => match t e1 x with
      | some (true, x1) => match f1 e1 x1 with
        | some (ds1, x2) => match compL gt1 t1 fe (wipeE e1 vs1) ds1 x2 with
          | some (rs, x3) => match compL2 gt t f1 gt1 t1 fe vs1 env ds x3 with
            | some (rs', x4) => some (rs ++ rs', x4)
            | none => none
          | none => none
        | none => none
      | some (false, x1) => compL2 gt t f1 gt1 t1 fe vs1 env ds x1
      | none => none
def xLc2 (f : FA) (gt : FGt) (t : FT) (f1 : FA) (gt1 : FGt) (t1 : FT) (fe : FE) (vs vs1 : List Nat) : FX := fun env x => match f env x with
  | some (ds, x1) => match compL2 gt t f1 gt1 t1 fe vs1 (wipeE env vs) ds x1 with
    | some (rs, x2) => if rs.length < maxLen then some (.ow (.lst rs), x2) else none
    | none => none
  | none => none
theorem lc2_read {ω : World} {K : PySem.W.Frag} {f f1 : FA} {gt gt1 : FGt} {t t1 : FT} {fe : FE} {vs vs1 : List Nat} {σ : L2.St} {H : Hp} {Q : VK} (gk : TgOk gt) (h : tX ω K (xLc2 f gt t f1 gt1 t1 fe vs vs1) σ H Q) : tLc2 (tI ω K f) (tG ω K vs gt) (tT ω K t) (tI ω K f1) (tG ω K vs1 gt1) (tT ω K t1) (tE ω K fe) vs vs1 σ H Q := by
  obtain ⟨g, O, env, x, sl, x', S, e, k⟩ := h
  unfold xLc2 at e
  split at e
  · rename_i ds x1 e1
    split at e
    · rename_i rs x2 e2
      split at e
      · rename_i hl
        cases e
        refine ⟨g, O, env, x, ds, x1, S, e1, fun J more H1 S1 l1 wk p hp => ?_⟩
        have n1 := S1.newp hp
        have hp0 : Gone H p := Le.gone l1 (.of hp) S1.unadd
        have hne : ∀ (j : Nat) d b, env[j]? = some d → isOwn d = true → σ[j]? = some (some (.ref b)) → b ≠ p := fun j d b h1 h0 h2 => own_ne2 S1 (.of hp) h1 h0 h2
        refine ⟨fun i m H2 => m = ds.length - i ∧ i ≤ ds.length ∧ Le g H H2 ∧ ∃ x acc dn rest, FSt ω K (g.add more) (oAdd O p) σ H2 env x ∧ H2 p = some (.lst acc) ∧ RpA K (oAdd O p) H2 acc dn ∧ compL2 gt t f1 gt1 t1 fe vs1 (wipeE env vs) (ds.drop i) x = some (rest, x') ∧ dn ++ rest = rs,
          ⟨_, rfl, Nat.zero_le _, l1.trans (.of (same_upd hp)), x1, [], [], rs, S1.own hp True.intro, upd_same, .nil, e2, rfl⟩, fun i m H2 hW => ?_⟩
        obtain ⟨rfl, hil, lH, x, acc, dn, rest, S2, hacc, racc, e, er⟩ := hW
        obtain ⟨wgo, wst⟩ := wk _ σ H2 env x i S2
        by_cases hlt : i < ds.length
        · have hd : ds[i]? = some ds[i] := List.getElem?_eq_getElem hlt
          obtain ⟨go, yl⟩ := wgo _ hd
          rw [drop_get hd] at e
          refine .inr ⟨go, fun H2 => i + 1 ≤ ds.length ∧ Le g H H2 ∧ ∃ x acc dn rest, FSt ω K (g.add more) (oAdd O p) σ H2 env x ∧ H2 p = some (.lst acc) ∧ RpA K (oAdd O p) H2 acc dn ∧ compL2 gt t f1 gt1 t1 fe vs1 (wipeE env vs) (ds.drop (i + 1)) x = some (rest, x') ∧ dn ++ rest = rs,
            fun H' hN => ⟨ds.length - (i + 1), by omega, rfl, hN.1, hN.2⟩, fun v H3 hy => ?_⟩
          obtain ⟨sm, rv⟩ := yl v H3 hy
          unfold compL2 at e
          split at e
          · cases e
          · rename_i env1 e3
            have S3 := S2.same sm
            refine ⟨g.add more, oAdd O p, wipeE env vs, x, ds[i], env1, S3.wiped vs, rv, e3, fun σ1 w1 S4 => ⟨w1.trans (wipe_wipe σ vs), ?_⟩⟩
            have hnd1 : ∀ (j : Nat) d b, env1[j]? = some (.nd d) → σ1[j]? = some (some (.ref b)) → env[j]? = some (.nd d) ∧ σ[j]? = some (some (.ref b)) := fun j d b h1 h2 => by
              have q := gk _ _ _ e3 j _ h1 rfl
              rcases wipeE_get q with z | ⟨z, z2⟩
              · cases z
              · have a1 : (wipe σ1 vs)[j]? = σ1[j]? := by rw [wipe_get, if_neg z]
                have a2 : (wipe (wipe σ vs) vs)[j]? = σ[j]? := by rw [wipe_wipe, wipe_get, if_neg z]
                exact ⟨z2, by rw [← a2, ← w1, a1]; exact h2⟩
            have hne1 : ∀ (j : Nat) d b, env1[j]? = some d → isOwn d = true → σ1[j]? = some (some (.ref b)) → b ≠ p := fun j d b h1 h0 h2 => by
              have q := gk _ _ _ e3 j d h1 h0
              rcases wipeE_get q with z | ⟨z, z2⟩
              · rw [z] at h0; cases h0
              · refine hne j d b z2 h0 ?_
                have a1 : (wipe σ1 vs)[j]? = σ1[j]? := by rw [wipe_get, if_neg z]
                have a2 : (wipe (wipe σ vs) vs)[j]? = σ[j]? := by rw [wipe_wipe, wipe_get, if_neg z]
                rw [← a2, ← w1, a1]; exact h2
            split at e
            · rename_i xb e4
              split at e
              · rename_i ds1 xc e5
                split at e
                · rename_i rsA xd e6
                  split at e
                  · rename_i rs' xe e7
                    cases e
                    refine ⟨g.add more, oAdd O p, env1, x, _, xb, S4, e4, fun H5 S5 l5 => ?_⟩
                    refine iteT ?_
                    refine ⟨g.add more, oAdd O p, env1, xb, ds1, xc, S5, e5, fun J1 more1 H6 S6 l6 wk1 => ?_⟩
                    have l7 : Le (g.add more) H2 H6 := (Le.of sm).trans (l5.trans l6)
                    have S7 := S2.step l7 S6.tb fun r hr => (S6.row r hr).2.2
                    refine ⟨fun j m H7 => m = ds1.length - j ∧ j ≤ ds1.length ∧ Le g H H7 ∧ ∃ y acc dn1 rest1, FSt ω K (g.add more) (oAdd O p) σ H7 env y ∧ FSt ω K ((g.add more).add more1) (oAdd O p) σ1 H7 env1 y ∧ H7 p = some (.lst acc) ∧ RpA K (oAdd O p) H7 acc dn1 ∧ compL gt1 t1 fe (wipeE env1 vs1) (ds1.drop j) y = some (rest1, xd) ∧ dn1 ++ rest1 = dn ++ rsA,
                      ⟨_, rfl, Nat.zero_le _, fun c u hR e tn => l7 c u hR (lH c u hR e tn) tn, xc, acc, dn, rsA, S7, S6, l7 p _ n1.2 hacc rfl, racc.step S2 l7, e6, rfl⟩, fun j m H7 hW => ?_⟩
                    obtain ⟨rfl, hjl, lH7, y, acc1, dn1, rest1, So, Si, hacc1, racc1, ec, er1⟩ := hW
                    obtain ⟨wgo1, wst1⟩ := wk1 _ σ1 H7 env1 y j Si
                    by_cases hlt1 : j < ds1.length
                    · have hd1 : ds1[j]? = some ds1[j] := List.getElem?_eq_getElem hlt1
                      obtain ⟨go1, yl1⟩ := wgo1 _ hd1
                      rw [drop_get hd1] at ec
                      refine .inr ⟨go1, fun H7 => j + 1 ≤ ds1.length ∧ Le g H H7 ∧ ∃ y acc dn1 rest1, FSt ω K (g.add more) (oAdd O p) σ H7 env y ∧ FSt ω K ((g.add more).add more1) (oAdd O p) σ1 H7 env1 y ∧ H7 p = some (.lst acc) ∧ RpA K (oAdd O p) H7 acc dn1 ∧ compL gt1 t1 fe (wipeE env1 vs1) (ds1.drop (j + 1)) y = some (rest1, xd) ∧ dn1 ++ rest1 = dn ++ rsA,
                        fun H' hN => ⟨ds1.length - (j + 1), by omega, rfl, hN.1, hN.2⟩, fun v1 H8 hy1 => ?_⟩
                      obtain ⟨sm1, rv1⟩ := yl1 v1 H8 hy1
                      unfold compL at ec
                      split at ec
                      · cases ec
                      · rename_i env2 c3
                        have T3 := Si.same sm1
                        refine ⟨(g.add more).add more1, oAdd O p, wipeE env1 vs1, y, ds1[j], env2, T3.wiped vs1, rv1, c3, fun σ2 w2 T4 => ⟨w2.trans (wipe_wipe σ1 vs1), ?_⟩⟩
                        split at ec
                        · rename_i ya c4
                          split at ec
                          · rename_i r yc c5
                            split at ec
                            · rename_i rs2 yd c6
                              cases ec
                              refine ⟨(g.add more).add more1, oAdd O p, env2, y, _, ya, T4, c4, fun H9 T5 k5 => ?_⟩
                              refine iteT ?_
                              refine ⟨(g.add more).add more1, oAdd O p, env2, ya, r, yc, T5, c5, fun z H10 T6 k6 r6 => ?_⟩
                              have k7 : Le ((g.add more).add more1) H7 H10 := (Le.of sm1).trans (k5.trans k6)
                              have So7 := So.step (H' := H10) (x' := yc) k7 T6.tb fun r hr => (T6.row r hr).2.2
                              have Si7 := Si.step k7 T6.tb fun r hr => (T6.row r hr).2.2
                              have hacc' := k7 p _ n1.2 hacc1 rfl
                              have ll : acc1.length < maxLen := by
                                have a1 := racc1.length
                                have a2 := congrArg List.length er1
                                have a3 := congrArg List.length er
                                simp only [List.length_append, List.length_cons] at a2 a3
                                omega
                              have lE : Le g H (upd H10 p (.lst (acc1 ++ [z]))) := by
                                intro c u hR e tn
                                have zz : c ≠ p := fun zz => by rw [zz] at e; exact hp0.no e tn
                                rw [upd_ne zz]
                                exact k7 c u hR (lH7 c u hR e tn) tn
                              refine ⟨acc1, hacc', maxLen_lt ll, hlt1, lE, yc, acc1 ++ [z], dn1 ++ [r], rs2, So7.upd1 hacc' notC_lst (.inr rfl) n1.1 n1.2 True.intro hne (fun j d b h1 h2 => own_nd S (Le.trans (g := g) lH7 k7) hp0 h1 h2), Si7.upd1 hacc' notC_lst (.inr rfl) n1.1 n1.2 True.intro hne1 (fun j d b h1 h2 => own_nd S (Le.trans (g := g) lH7 k7) hp0 (hnd1 j d b h1 h2).1 (hnd1 j d b h1 h2).2), upd_same, ?_, c6, by rw [List.append_assoc]; exact er1⟩
                              exact ((racc1.step Si k7).app (.cons r6 .nil)).move (keep_own So7 (.inr rfl)) .refl
                            · cases ec
                          · cases ec
                        · rename_i ya c4
                          refine ⟨(g.add more).add more1, oAdd O p, env2, y, _, ya, T4, c4, fun H9 T5 k5 => ?_⟩
                          refine iteF ?_
                          have k7 : Le ((g.add more).add more1) H7 H9 := (Le.of sm1).trans k5
                          have So7 := So.step (H' := H9) (x' := ya) k7 T5.tb fun r hr => (T5.row r hr).2.2
                          have Si7 := Si.step k7 T5.tb fun r hr => (T5.row r hr).2.2
                          exact ⟨hlt1, fun c u hR e tn => k7 c u hR (lH7 c u hR e tn) tn, ya, acc1, dn1, rest1, So7, Si7, k7 p _ n1.2 hacc1 rfl, racc1.step Si k7, ec, er1⟩
                        · cases ec
                    · have hj : j = ds1.length := by omega
                      rw [hj, List.drop_length] at ec
                      unfold compL at ec
                      cases ec
                      rw [List.append_nil] at er1
                      subst er1
                      refine .inl ⟨wst1 hj, hlt, lH7, _, acc1, _, rs', So, hacc1, racc1, e7, by rw [List.append_assoc]; exact er⟩
                  · cases e
                · cases e
              · cases e
            · rename_i xb e4
              refine ⟨g.add more, oAdd O p, env1, x, _, xb, S4, e4, fun H5 S5 l5 => ?_⟩
              refine iteF ?_
              have l7 : Le (g.add more) H2 H5 := (Le.of sm).trans l5
              have S7 := S2.step l7 S5.tb fun r hr => (S5.row r hr).2.2
              exact ⟨hlt, fun c u hR e tn => l7 c u hR (lH c u hR e tn) tn, xb, acc, dn, rest, S7, l7 p _ n1.2 hacc rfl, racc.step S2 l7, e, er⟩
            · cases e
        · have hi : i = ds.length := by omega
          rw [hi, List.drop_length] at e
          unfold compL2 at e
          cases e
          rw [List.append_nil] at er
          subst er
          refine .inl ⟨wst hi, k (oAdd O p) _ H2 S2.unadd lH (fun a z => z.elim .inl fun e => .inr (e ▸ hp0)) (fun a z => .inl z) (.ow (.inr rfl) n1.1 n1.2 ⟨acc, hacc, racc⟩) ⟨p, rfl, hp0⟩⟩
      · cases e
    · cases e
  · cases e
section
variable {X : Cx} {pos : Pos}
theorem sx_lc2 {elt tg iter tg1 iter1 : Expr} {ifs ifs1 : List Expr} {scope : Scope} {own : List (Str × Nat)} {vs1 : List Nat} {f f1 : FA} {gt gt1 : FGt} {t t1 : FT} {fe : FE} (hc : X.calm = true) (hN : X.N.Nodup) (hi : SI X tg iter f) (ok : BlkOk X.N X.env.scope scope own) (hv : ∀ i ∈ vs1, i ∈ own.map (·.2)) (gk : TgOk gt)
    (hg : ∀ (s : Shared) (H : Hp) (C : Addr) (cl : List (Str × Addr)) (fp : List Addr), SG (X.blk s H scope (compEnvC scope cl C X.env) fp) tg (own.map (·.2)) gt)
    (ht : ∀ (s : Shared) (H : Hp) (C : Addr) (cl : List (Str × Addr)) (fp : List Addr), STs (X.blk s H scope (compEnvC scope cl C X.env) fp) ifs t)
    (hi1 : ∀ (s : Shared) (H : Hp) (C : Addr) (cl : List (Str × Addr)) (fp : List Addr), SI (X.blk s H scope (compEnvC scope cl C X.env) fp) tg1 iter1 f1)
    (hg1 : ∀ (s : Shared) (H : Hp) (C : Addr) (cl : List (Str × Addr)) (fp : List Addr), SG (X.blk s H scope (compEnvC scope cl C X.env) fp) tg1 vs1 gt1)
    (ht1 : ∀ (s : Shared) (H : Hp) (C : Addr) (cl : List (Str × Addr)) (fp : List Addr), STs (X.blk s H scope (compEnvC scope cl C X.env) fp) ifs1 t1)
    (he : ∀ (s : Shared) (H : Hp) (C : Addr) (cl : List (Str × Addr)) (fp : List Addr), SE (X.blk s H scope (compEnvC scope cl C X.env) fp) elt fe) (hs : ∀ x, foldedSetIterable iter X.env x = pure x := by intro _; rfl) (hs1 : ∀ env x, foldedSetIterable iter1 env x = pure x := by intro _ _; rfl) :
    SX X (.ListComp elt [⟨tg, iter, ifs, 0⟩, ⟨tg1, iter1, ifs1, 0⟩] scope pos) (xLc2 f gt t f1 gt1 t1 fe (own.map (·.2)) vs1) :=
  ⟨PEw (pe_lc2 hc hN hi.out ok hv (fun s H C cl fp => (show PG _ tg (tG X.w X.K (own.map (·.2)) gt) from (hg s H C cl fp).out)) (fun s H C cl fp => (show PTs _ ifs (tT X.w X.K t) from (ht s H C cl fp).out)) (fun s H C cl fp => (show PI _ tg1 iter1 (tI X.w X.K f1) from (hi1 s H C cl fp).out)) (fun s H C cl fp => (show PG _ tg1 (tG X.w X.K vs1 gt1) from (hg1 s H C cl fp).out)) (fun s H C cl fp => (show PTs _ ifs1 (tT X.w X.K t1) from (ht1 s H C cl fp).out)) (fun s H C cl fp => (show PE _ elt (tE X.w X.K fe) from (he s H C cl fp).out)) hs hs1) fun σ H Q h => lc2_read gk h⟩
end
end RT
namespace RT
open PySem PySem.Spec PyProof.Rows L2
end RT
namespace RT
open PySem PySem.Spec PyProof.Rows L2
/-! ### dict(xs) of pairs whose keys are tuples -/
end RT
namespace RT
open PySem PySem.Spec PyProof.Rows L2
/-! ### sorted, of tuples that are alike, whatever stands in them -/
def sortableB (ds : List D) : Bool := ds.all fun d => match d with
  | .tuple (_ :: _) => true
  | _ => false
def alikeB (ds : List D) : Bool := ds.all fun d => ds.all fun e => PySem.W.alike d.py e.py
def leD (a b : D) : Bool := !PySem.W.dataLt b.py a.py
def gSortD : List D → Option D
  | [.list ds] => if shapedD (.list ds) && sortableB ds && alikeB ds && decide (ds.length ≤ maxLen) then some (.list (ds.mergeSort leD)) else none
  | _ => none
def gSort1 : List D → Option D
  | [.list ds] => if ds.length ≤ 1 then some (.list ds) else none
  | _ => none
theorem pyAll_map : ∀ ds : List D, pyAll ds = ds.map D.py
  | [] => rfl
  | d :: ds => by rw [pyAll, pyAll_map ds]; rfl
theorem each_of {K : PySem.W.Frag} {O : Addr → Prop} {H : Hp} : ∀ {xs : List V} {its : List Value} {ds : List D}, Vals xs its → RpA K O H xs ds → PySem.W.EachIs (fun u d => ∃ v, RelV v u ∧ Rp K O H v d) its ds
  | _, _, _, .nil, .nil => .nil
  | _, _, _, .cons a b, .cons c d => .cons ⟨_, a, c⟩ (each_of b d)
theorem of_each {K : PySem.W.Frag} {O : Addr → Prop} {H : Hp} {its : List Value} {ds : List D} (h : PySem.W.EachIs (fun u d => ∃ v, RelV v u ∧ Rp K O H v d) its ds) : ∃ xs, Vals xs its ∧ RpA K O H xs ds := by
  induction h with
  | nil => exact ⟨[], .nil, .nil⟩
  | cons h _ ih =>
    obtain ⟨v, a, b⟩ := h
    obtain ⟨xs, c, d⟩ := ih
    exact ⟨v :: xs, .cons a c, .cons b d⟩
theorem room66 {k : Nat} {A : Around} (r : Room k A) : A.units + 66 < cLine := by
  have := r.un
  omega
section
variable {X : Cx}
theorem cd_sortD (hu : X.A.units + 66 < cLine) : CallD X (.builtin "sorted") gSortD := by
  intro pins s σ H vs us Q I rv h
  obtain ⟨g, O, σ', env, x, ds, z, S, rr, e, k⟩ := h
  unfold gSortD at e
  split at e
  · rename_i ds0
    split at e
    · rename_i hc
      cases e
      simp only [Bool.and_eq_true, decide_eq_true_eq] at hc
      obtain ⟨⟨⟨hs, ht⟩, ha⟩, hlen⟩ := hc
      cases rr with
      | cons r r' =>
      cases r'
      obtain ⟨p, xs, rfl, hp, rx⟩ := r.lst
      obtain ⟨its, rvv, hl, hz⟩ := I.list (.of hp)
      rw [Vals.ref1 rv]
      have hlay := SeqAt.canLay_of_shaped hs
      have hdep := SeqAt.depth_of_shaped hs
      have hlay' : PyData.canLayAll0 (pyAll ds0) = true := by simpa [D.py, PyData.canLay0] using hlay
      obtain ⟨as, rd⟩ := Dp.readsAll I (pyAll ds0) xs its (rx.dp hlay') rvv
      rw [pyAll_map] at rd
      have hsort : ∀ out : List Value, PySem.W.EachIs (fun u d => ∃ v, RelV v u ∧ Rp X.K O H v d) out (ds0.mergeSort (PySem.W.dataLe false D.py)) → EP X pins σ Q (.ref (s.heap.objs.size + 1)) { s with heap := sortedAll s.heap its (List.toArray out) } := fun out he => by
        obtain ⟨zs, q1, q2⟩ := of_each he
        obtain ⟨ep, he'⟩ := PyProof.Rows.sortedAll_at s.heap its out.toArray
        have hzs : zs.length ≤ sizeLine := by
          rw [q2.length, List.length_mergeSort]; exact maxLen_ok hlen
        have hn : H (s.heap.objs.size + 1) = none := I.hok.fresh (Nat.le_succ _)
        have sm := same_upd (o := .lst zs) hn
        refine ⟨.ref _, upd H (s.heap.objs.size + 1) (.lst zs), I.laid (t' := s.toks) (fun _ _ => PyProof.Rows.sortedAll_old) (Nat.le_succ _) ⟨hzs, out, ep, q1, he'⟩, rfl, k _ _ sm ?_⟩
        exact .lst (S.notO hn) upd_same (q2.move (.of sm) .refl)
      refine PySem.W.sorted_data (enc := D.py) (bs := ds0) (R := fun u d => ∃ v, RelV v u ∧ Rp X.K O H v d) hl.isList (each_of rvv rx) (PySem.W.readsAll_each D.py rd) ?_ ?_ (maxLen_ok hlen) ?_ (fun out _ he => hsort out he)
      · intro d hd d' hd'
        obtain ⟨b, hb, rfl⟩ := List.mem_map.mp hd
        obtain ⟨b', hb', rfl⟩ := List.mem_map.mp hd'
        exact List.all_eq_true.mp (List.all_eq_true.mp ha b hb) b' hb'
      · refine .inl fun d hd => ?_
        obtain ⟨b, hb, rfl⟩ := List.mem_map.mp hd
        have q := List.all_eq_true.mp ht b hb
        cases b with
        | tuple xs =>
          cases xs with
          | nil => simp at q
          | cons x xs => exact ⟨x.py, pyAll xs, by rw [D.py, pyAll]⟩
        | _ => simp at q
      · intro b hb
        have dl : ∀ {ds : List D}, b ∈ ds → b.py.depth ≤ PyData.depthAll (pyAll ds) := fun {ds} => by
          induction ds with
          | nil => intro h; cases h
          | cons d ds ih =>
            intro h
            rw [pyAll, PyData.depthAll]
            rcases List.mem_cons.mp h with rfl | h
            · exact Nat.le_max_left _ _
            · exact Nat.le_trans (ih h) (Nat.le_max_right _ _)
        have h1 := dl hb
        have h2 : PyData.depthAll (pyAll ds0) + 1 ≤ 64 := by simpa [D.py, PyData.depth, Nat.add_comm] using hdep
        omega
    · cases e
  · cases e
theorem cd_sort1 : CallD X (.builtin "sorted") gSort1 := by
  intro pins s σ H vs us Q I rv h
  obtain ⟨g, O, σ', env, x, ds, z, S, rr, e, k⟩ := h
  unfold gSort1 at e
  split at e
  · rename_i ds0
    split at e
    · rename_i hc
      cases e
      cases rr with
      | cons r r' =>
      cases r'
      obtain ⟨p, xs, rfl, hp, rx⟩ := r.lst
      obtain ⟨its, rvv, hl, hz⟩ := I.list (.of hp)
      rw [Vals.ref1 rv]
      have hil : its.length ≤ 1 := by rw [← rvv.length, rx.length]; exact hc
      refine SrtO.sorted_ord (ltv := fun _ _ => false) ⟨fun _ _ h => (nomatch h), fun _ _ _ _ _ => rfl⟩ hl.isList (by rw [← rvv.length]; exact hz) (fun h2 => absurd h2 (by omega)) fun out h1 h2 => ?_
      have eo : out = its := by
        have hlo := h2.perm.length_eq
        match its, out, hil, hlo, h2.perm with
        | [], [], _, _, _ => rfl
        | [a], [b], _, _, p => exact (by rw [List.singleton_perm_singleton.mp p])
        | [], _ :: _, _, h, _ => simp at h
        | [_], [], _, h, _ => simp at h
        | [_], _ :: _ :: _, _, h, _ => simp at h
        | _ :: _ :: _, _, h, _, _ => simp at h
      subst eo
      obtain ⟨ep, he'⟩ := PyProof.Rows.sortedAll_at s.heap out out.toArray
      have hn : H (s.heap.objs.size + 1) = none := I.hok.fresh (Nat.le_succ _)
      have sm := same_upd (o := .lst xs) hn
      refine ⟨.ref _, upd H (s.heap.objs.size + 1) (.lst xs), I.laid (t' := s.toks) (fun _ _ => PyProof.Rows.sortedAll_old) (Nat.le_succ _) ⟨hz, out, ep, rvv, he'⟩, rfl, k _ _ sm ?_⟩
      exact .lst (S.notO hn) upd_same (rx.move (.of sm) .refl)
    · cases e
  · cases e
def gSortX : List D → Option D := cOr gSort (cOr gSort1 gSortD)
theorem cd_sortX (hu : X.A.units + 66 < cLine) : CallD X (.builtin "sorted") gSortX := cd_sortA.or (cd_sort1.or (cd_sortD hu))
end
end RT
namespace RT
open PySem PySem.Spec PyProof.Rows L2
/-! ### for k in d: the dict is locked meanwhile -/
end RT
namespace RT
open PySem PySem.Spec PyProof.Rows L2 PpSet
/-! ### {elt for .. in .. for .. in ..}, the elements ints -/
section
variable {prog : Program} {w : World} {A : Around} {R : Result → Shared → Prop} {s : Shared} {el ta ia tb ib : Expr} {ca cb : List Expr} {sc : Scope} {ps : Pos} {J M : Value} {env : Env}
/-- where a raise in the block goes -/
abbrev nb (prog : Program) (w : World) (A : Around) (R : Result → Shared → Prop) (env : Env) : Value → Shared → Prop := notedBy (model prog w) A env fun x t => R (.error x) t
end
end RT
namespace RT
open PySem PySem.Spec PyProof.Rows L2
section
variable {X : Cx} {pos : Pos}
/-! x in a constant tuple of texts -/
def fInS (cs : List Str) (fa : FE) : FE := fun env x => match fa env x with
  | some (.str s, x1) => some (.bool (cs.any fun c => decide (c = s)), x1)
  | _ => none
theorem inV_strs (s : Str) (cs : List Str) : inV (.str s) (cs.map V.str) = cs.any fun c => decide (c = s) := by
  unfold inV
  rw [List.any_map]
  congr 1
theorem flat_strs (cs : List Str) : (cs.map V.str).all flatV = true := by
  rw [List.all_eq_true]
  intro v hv
  obtain ⟨c, _, rfl⟩ := List.mem_map.mp hv
  rfl
theorem se_inS {a : Expr} {fa : FE} {n : Str} {p1 : Pos} {ad : Addr} {o : Obj} {its : Array Value} {m : Nat} (cs : List Str) (hg : Gl X n) (hm : X.mg n = some (.ref ad)) (hK : X.K.lookup ad = some o) (hcl : o.cls = .type "tuple") (hda : o.data = .seq its m) (hsz : its.size ≤ sizeLine) (hvs : Vals (cs.map V.str) its.toList) (ha : SB X a fa) (hd : (n == ("__debug__" : Str)) = false := by decide) (hmk : behindInMarks .In (.Name n p1) = false := by rfl) : SE X (.Compare a [.In] [.Name n p1] pos) (fInS cs fa) := by
  refine ⟨PEw (pe_cmpR op_in_seq ha.out (pe_glob (v := .ref ad) hg hm rfl hd) hmk) fun σ H Q h => ?_⟩
  obtain ⟨g, O, env, x, d, x', S, e, k⟩ := h
  unfold fInS at e
  split at e
  · rename_i s x1 e1
    cases e
    refine ⟨g, O, env, x, _, x', S, e1, fun v H1 S1 l1 r1 => ?_⟩
    have : v = .str s := r1.str
    subst this
    refine ⟨ad, cs.map V.str, rfl, .inr (.inr ⟨o, its, m, hK, hcl, hda, hsz, hvs⟩), rfl, flat_strs cs, ?_⟩
    simp only [Bool.false_eq_true, if_false, inV_strs]
    exact k _ _ S1 l1 (.bl _)
  · cases e
/-! a < b of data that are alike -/
def gLtD : D → D → Option D := fun d e => if shapedD d && shapedD e && PySem.W.alike d.py e.py && !isNoneD d then some (.bool (PySem.W.dataLt d.py e.py)) else none
theorem od_ltD (hu : X.A.units + 64 < cLine) : OpD X (compareOp .Lt) gLtD := by
  intro pins s σ H x y v u Q I rx ry h
  obtain ⟨g, O, σ', env, x0, d, e, r, S, r1, r2, q, k⟩ := h
  unfold gLtD at q
  split at q
  · rename_i hc
    cases q
    simp only [Bool.and_eq_true, Bool.not_eq_true'] at hc
    obtain ⟨⟨⟨h1, h2⟩, h3⟩, h4⟩ := hc
    obtain ⟨as, q1⟩ := Dp.reads I d.py _ v (r1.dp h1) rx
    obtain ⟨bs, q2⟩ := Dp.reads I e.py _ u (r2.dp h2) ry
    have hd := SeqAt.depth_of_shaped h1
    have hn : d.py ≠ .none := fun z => by
      cases d <;> simp [D.py] at z
      simp [isNoneD] at h4
    show wpAny _ _ (richCompare .Lt v u) _ _ s
    exact PySem.W.rcLt_alike d.py e.py X.A s v u as bs q1 q2 h3 hn (by have := Nat.min_le_left d.py.depth e.py.depth; omega) _ _ _ _ ⟨.bl _, H, I, rfl, k _ _ (Same.refl _) (.bl _)⟩
  · cases q
def gLtX : D → D → Option D := gOr gLt gLtD
theorem od_ltX (hu : X.A.units + 64 < cLine) : OpD X (compareOp .Lt) gLtX := (od_ltA (by omega)).or (od_ltD hu)
end
end RT
namespace RT
open PySem PySem.Spec PyProof.Rows L2
/-! ### dicts with keys of any kind -/
end RT
namespace RT
open PySem PySem.Spec PyProof.Rows L2
section
variable {ω : World} {K : PySem.W.Frag} {O : Addr → Prop} {H : Hp} {P : Program} {w : World} {h : Heap}
theorem Paired.comp {α β γ : Type} {F : α → β → Prop} {G : β → γ → Prop} {M : α → γ → Prop} (f : ∀ a b c, F a b → G b c → M a c) : ∀ {l : List α} {m : List β} {n : List γ}, Paired F l m → Paired G m n → Paired M l n
  | _, _, _, .nil, .nil => .nil
  | _, _, _, .cons x y, .cons u v => .cons (f _ _ _ x u) (Paired.comp f y v)
/-- a key fits to those that stand -/
structure Fit (K : PySem.W.Frag) (O : Addr → Prop) (H : Hp) (ds : List (D × D)) (kd : D) (q : NestedKey) (v : V) : Prop where
  k : nk kd = some q
  dp : q.depth ≤ 8
  t : ∀ p ∈ ds, isTupD p.1 = isTupD kd
  r : Rp K O H v kd
variable {X : Cx} {pins : List (Addr × Obj)} {σ : L2.St} {s : Shared} {a : Addr} {xs : List DaX} {ds : List (D × D)} {kd d1 : D} {q : NestedKey} {v : V} {u r : Value} {E : Value → Shared → Prop} {Q : Value → Shared → Prop}
theorem Fit.ref (f : Fit K O H ds kd q v) (t : isTupD kd = true) : ∃ b, v = .ref b := by
  obtain ⟨_, _, _, r⟩ := f
  cases kd <;> first | (cases t; done) | exact r.isRef
end
/-! ### statements and expressions -/
end RT
namespace RT
open PySem PySem.Spec PyProof.Rows L2
/-! ### the numbers of marks -/
end RT
namespace RT
open PySem PySem.Spec PyProof.Rows L2
/-! ### dicts whose keys are tuples of any kind: k not in d, d[k] = v, {k: v} -/
end RT
namespace RT
open PySem PySem.Spec PyProof.Rows L2
/-! ### zip of two lists, of two tuples -/
end RT
namespace RT
open PySem PySem.Spec PyProof.Rows L2
/-! ### set(t), t a tuple of ints, under sorted -/
end RT
namespace RT
open PySem PySem.Spec PyProof.Rows L2
open LamX (CodeO)
open NdefX
/-! ### a lambda with parameters, called by whoever got it: F.body is not used, its body is the expression be -/
end RT
namespace RT
open PySem PySem.Spec PyProof.Rows L2
open LamX (CodeO)
open NdefX
/-! ### a name that holds a function made by the caller -/
/-- in the context X the function at f, called with plain data, answers m -/
structure LamCall (X : Cx) (f c : Addr) (q : Str) (gs : List (V × D)) (m : List D → Option D) : Prop where
  at_ : ∀ (pins : List (Addr × Obj)) (σ : L2.St) (H : Hp) (s : Shared), L2.Inv X pins σ H s → PySem.W.FnAt f s.heap
  run : ∀ (pins : List (Addr × Obj)) (σ : L2.St) (H : Hp) (s : Shared) (O : Addr → Prop) (us : List Value) (vs : List V) (ds : List D) (d : D) (Q : VK) (T : List (Addr × Str)), L2.Inv X pins σ H s → TOK X.K T → LamX.Tabs T H → (∀ a, O a → MutC (H a)) → H c = some (CodeO c q) → (∀ p ∈ gs, Rp X.K O H p.1 p.2) → Vals vs us → RpA X.K O H vs ds → m ds = some d →
    (∀ v H', SameT T H H' → Rp X.K O H' v d → Q v H') → wpAny (model X.prog X.w) X.A (call (.ref f) us) (EP X pins σ Q) X.xe s
end RT
namespace RT
open PySem PySem.Spec PyProof.Rows L2
open LamX (CodeO)
open NdefX
/-- the names at the entry of a lambda: its parameters, what it captured -/
def startG (n : Nat) (ds cs : List D) : FEn := ds.map FSl.va ++ (cs.map FSl.va ++ List.replicate (n - ds.length - cs.length) FSl.no)
def mkG (n k : Nat) (cs : List D) (fb : FE) : List D → Option D := fun ds => if ds.length = k then match fb (startG n ds cs) row0 with
  | some (d, _) => some d
  | none => none
  else none
theorem Paired.app {α β : Type} {R : α → β → Prop} : ∀ {l l' : List α} {m m' : List β}, Paired R l m → Paired R l' m' → Paired R (l ++ l') (m ++ m')
  | _, _, _, _, .nil, h => h
  | _, _, _, _, .cons a b, h => .cons a (Paired.app b h)
end RT
namespace RT
open PySem PySem.Spec PyProof.Rows L2
open LamX (CodeO TabB)
open NdefX
/-! ### a call that hands a lambda over: n(a, lambda ..: .., c) -/
def startS (n : Nat) (sl : List FSl) : FEn := sl ++ List.replicate (n - sl.length) FSl.no
def mkS (n : Nat) (sl : List FSl) (body : FS) : Option D := match body (startS n sl) row0 with
  | some (.rt d, _) => some d
  | some (.nx _, _) => some .none
  | _ => none
/-- a def that calls its second parameter -/
structure CalleeG (P : Program) (ω : World) (K : PySem.W.Frag) (mg : Str → Option Value) (base : Heap) (k : Nat) (n : Str) (N ps : List Str) (G : (List D → Option D) → D → D → Option D) : Prop where
  ex : ∃ (g : Addr) (st : Stmt) (fd : FuncData), Fun K n n st g fd ∧ FnScope N ps (defScope st) ∧ Binds K fd ps [] ∧ mg n = some (.ref g) ∧ ps.length = 3 ∧
    ∀ (cdv : Value) (A : Around) (outer : List Env) (s : Shared) (H : Hp), Room k (A.deeper (envOfC n (defScope st) s.heap.objs.size g cdv)) → ∀ (f c : Addr) (q : Str) (gs : List (V × D)) (m : List D → Option D),
      LamCall (cxOf CX0 P ω K mg base N n (defScope st) g cdv A outer s H E0).nox f c q gs m →
      ∃ body : FS, SSs (cxOf CX0 P ω K mg base N n (defScope st) g cdv A outer s H E0).nox (defBody st) body ∧ ∀ a b d, G m a b = some d → mkS N.length [.va a, .fn f c q gs, .va b] body = some d
theorem CalleeG.mono {P : Program} {ω : World} {K : PySem.W.Frag} {mg : Str → Option Value} {base : Heap} {k j : Nat} {n : Str} {N ps : List Str} {G : (List D → Option D) → D → D → Option D} (c : CalleeG P ω K mg base k n N ps G) (h : k ≤ j) : CalleeG P ω K mg base j n N ps G := by
  obtain ⟨g, st, fd, a, b, c, d, e, z⟩ := c.ex
  exact ⟨g, st, fd, a, b, c, d, e, fun cdv A outer s H hr => z cdv A outer s H (hr.mono h)⟩
def capsD (env : FEn) : List Nat → Option (List D)
  | [] => some []
  | j :: js => match env[j]?, capsD env js with
    | some (.va d), some ds => some (d :: ds)
    | _, _ => none
def fLam (G : (List D → Option D) → D → D → Option D) (fa fc : FE) (js : List Nat) (n k : Nat) (fb : FE) : FE := fun env x => match fa env x with
  | some (a, x1) => match capsD env js with
    | some cs => match fc env x1 with
      | some (c, x2) => match G (mkG n k cs fb) a c with
        | some d => some (d, x2)
        | none => none
      | none => none
    | none => none
  | none => none
end RT
namespace RT
open PySem PySem.Spec PyProof.Rows L2
/-! ### what grows from a start on, as a function -/
def ixF (q : NestedKey) : List D → Nat → Option Nat
  | [], _ => none
  | d :: ds, i => if nk d = some q then some i else ixF q ds (i + 1)
/-- the key of a thing, a tuple -/
def keyT (d : D) : Option NestedKey := match nk d with
  | some q => if q.depth ≤ 8 ∧ isTupD d = true then some q else none
  | none => none
theorem keyT_ok {d : D} {q : NestedKey} (h : keyT d = some q) : nk d = some q ∧ q.depth ≤ 8 ∧ isTupD d = true := by
  unfold keyT at h
  split at h
  · rename_i q' e
    split at h
    · rename_i c
      cases h
      exact ⟨e, c⟩
    · cases h
  · cases h
def grAdd (most : Option Nat) : List D → List (D × D) → Option (List D)
  | th, [] => some th
  | th, (_, t) :: r => match keyT t with
    | none => none
    | some q => match ixF q th 0 with
      | some _ => grAdd most th r
      | none => if most = some th.length then none else if th.length < 100000 then grAdd most (th ++ [t]) r else none
def grRow (th : List D) : List (D × D) → Option (List D)
  | [] => some []
  | (mk, t) :: r => match keyT t with
    | none => none
    | some q => match ixF q th 0 with
      | some j => match grRow th r with
        | some rs => some (.tuple [mk, .int (j : Nat)] :: rs)
        | none => none
      | none => none
def stepsD : List D → Option (List (D × D))
  | [] => some []
  | .tuple [mk, t] :: r => match stepsD r with
    | some rs => some ((mk, t) :: rs)
    | none => none
  | _ => none
def seqD : D → Option (List D)
  | .list ds => some ds
  | .tuple ds => some ds
  | _ => none
def grLoop (m : List D → Option D) (most : Option Nat) : Nat → List D → List D → Option (List D × List D)
  | 0, _, _ => none
  | n + 1, th, wb => if wb.length < th.length then
      match th[wb.length]? with
      | some t => match m [t] with
        | some s => match seqD s with
          | some sd => match stepsD sd with
            | some st => match grAdd most th st with
              | some th' => match grRow th' st with
                | some row => if row.length < 100000 ∧ wb.length < 100000 then grLoop m most n th' (wb ++ [.list row]) else none
                | none => none
              | none => none
            | none => none
          | none => none
        | none => none
      | none => none
    else some (th, wb)
def mostD : D → Option (Option Nat)
  | .none => some none
  | .int (.ofNat n) => some (some n)
  | _ => none
def gGrown (m : List D → Option D) (a b : D) : Option D := match keyT a, mostD b with
  | some _, some most => match grLoop m most 4000 [a] [] with
    | some (th, wb) => some (.tuple [.list th, .list wb])
    | none => none
  | _, _ => none
end RT
namespace RT
open PySem PySem.Spec PyProof.Rows L2
open LamX (CodeO TabB)
/-! ### a def that makes functions -/
theorem tab_code {K : PySem.W.Frag} {x : Str} {f c P : Addr} {oc : Value} {od : Option Addr} {fd : FuncData} {osl : Array (Option Value)} (ns : PySem.W.nsIn K mainGlobals x = some (some (.ref f))) (lk : K.lookup f = some ⟨oc, od, .func fd, osl⟩) (ti : PySem.W.tabIn K x = some (c, P)) : fd.code = .ref c := by
  unfold PySem.W.tabIn at ti
  rw [ns] at ti
  simp only [lk] at ti
  split at ti
  · rename_i c' e
    split at ti
    · split at ti
      · cases ti; exact e
      · cases ti
    · cases ti
  · cases ti
end RT
namespace RT
open PySem PySem.Spec PyProof.Rows L2
/-! ### d.setdefault(k, v), d a dict with ints and texts as keys; xs[::-1]; x in a tuple -/
end RT
namespace RT
open PySem PySem.Spec PyProof.Rows L2
/-! ### sorted(d), the keys of d tuples of ints and texts -/
/-- the tables of the makers that the program has -/
theorem tok_of {K : PySem.W.Frag} {L : List (Str × Addr × Addr)} (h1 : (makers.all fun x => match PySem.W.tabIn K x with | some (_, P) => L.any fun q => q.1 == x && q.2.2 == P | none => true) = true) (h2 : (L.map fun q => q.2.2).Nodup) : TOK K (L.map fun q => (q.2.2, lamq q.1)) := fun x hx c P e => by
  have z := List.all_eq_true.mp h1 x hx
  rw [e] at z
  obtain ⟨q, hq, z⟩ := List.any_eq_true.mp z
  rw [Bool.and_eq_true, beq_iff_eq, beq_iff_eq] at z
  obtain ⟨z1, z2⟩ := z
  subst z1
  subst z2
  refine ⟨List.mem_map.mpr ⟨q, hq, rfl⟩, fun p hp ep => ?_⟩
  obtain ⟨q', hq', rfl⟩ := List.mem_map.mp hp
  have : q' = q := by
    have key : ∀ {L : List (Str × Addr × Addr)}, (L.map fun q => q.2.2).Nodup → ∀ {a b}, a ∈ L → b ∈ L → a.2.2 = b.2.2 → a = b := fun {L} => by
      induction L with
      | nil => intro _ a b ha; cases ha
      | cons l L ih =>
        intro hn a b ha hb e
        rw [List.map_cons, List.nodup_cons] at hn
        rcases List.mem_cons.mp ha with e1 | h1
        · rcases List.mem_cons.mp hb with e2 | h2
          · rw [e1, e2]
          · exact absurd (List.mem_map.mpr ⟨b, h2, by rw [← e, e1]⟩) hn.1
        · rcases List.mem_cons.mp hb with e2 | h2
          · exact absurd (List.mem_map.mpr ⟨a, h1, by rw [e, e2]⟩) hn.1
          · exact ih hn.2 h1 h2 e
    exact key h2 hq' hq ep
  rw [this]
mutual
theorem reads_there {h : Heap} : ∀ {v : Value} {d : PyData} {as : List Addr}, Reads h v d as → ∀ b ∈ as, ∃ o, h.get? b = some o
  | _, _, _, .none => fun _ z => nomatch z
  | _, _, _, .bool _ => fun _ z => nomatch z
  | _, _, _, .int _ _ => fun _ z => nomatch z
  | _, _, _, .str _ _ => fun _ z => nomatch z
  | _, _, _, .list e _ _ r => fun b z => (List.mem_cons.mp z).elim (fun q => ⟨_, q ▸ e⟩) (readsAll_there r b)
  | _, _, _, .tuple _ _ _ r => readsAll_there r
  | _, _, _, .dict e _ _ r r' => fun b z => (List.mem_cons.mp z).elim (fun q => ⟨_, q ▸ e⟩) fun z => (List.mem_append.mp z).elim (readsAll_there r b) (readsAll_there r' b)
theorem readsAll_there {h : Heap} : ∀ {v : List Value} {d : List PyData} {as : List Addr}, ReadsAll h v d as → ∀ b ∈ as, ∃ o, h.get? b = some o
  | _, _, _, .nil => fun _ z => nomatch z
  | _, _, _, .cons r r' => fun b z => (List.mem_append.mp z).elim (reads_there r b) (readsAll_there r' b)
end
theorem each_as {h h2 : Heap} {a : Addr} (keep : ∀ b o, h.get? b = some o → h2.get? b = some o) (fresh : ∀ b o, h.get? b = some o → b ≠ a) : ∀ {vs : List Value} {bs : List D} {as : List Addr}, ReadsAll h vs (bs.map D.py) as → (∀ b ∈ as, ∃ o, h.get? b = some o) → PySem.W.EachIs (fun v b => ∃ as, Reads h2 v (D.py b) as ∧ a ∉ as) vs bs
  | [], [], _, _, _ => .nil
  | [], _ :: _, _, r, _ => nomatch r
  | _ :: _, [], _, r, _ => nomatch r
  | v :: vs, b :: bs, as, r, th => by
    rw [List.map_cons] at r
    cases r with
    | cons r1 r2 => exact .cons ⟨_, PyProof.Rows.Reads.keeps keep r1, fun z => let ⟨o, eo⟩ := th _ (List.mem_append_left _ z); fresh _ o eo rfl⟩ (each_as keep fresh r2 fun b hb => th b (List.mem_append_right _ hb))
def keysD (kvs : List (D × D)) : List D := kvs.map (·.1)
def gSortK : List D → Option D
  | [.dictT kvs] => gSortD [.list (keysD kvs)]
  | _ => none
section
variable {X : Cx}
def gSortY : List D → Option D := cOr gSortX gSortK
end
end RT
namespace RT
open PySem PySem.Spec PyProof.Rows L2 PpSet
/-! ### dict comprehensions whose keys are tuples of ints and texts -/
def dcLT (gt : FGt) (t : FT) (fk fv : FE) (env : FEn) : List D → List (D × D) → FRow → Option (List (D × D) × FRow)
  | [], acc, x => some (acc, x)
  | d :: ds, acc, x => match gt d env with
    | none => none
    | some e1 => match t e1 x with
      | some (true, x1) => match fk e1 x1 with
        | some (k, x2) => match dKeyT k with
          | some q => match fv e1 x2 with
            | some (v, x3) => if acc.length < maxLen then dcLT gt t fk fv env ds (putD dKeyT acc k q v) x3 else none
            | none => none
          | none => none
        | none => none
      | some (false, x1) => dcLT gt t fk fv env ds acc x1
      | none => none
def xDcT (f : FA) (gt : FGt) (t : FT) (fk fv : FE) (vs : List Nat) : FX := fun env x => match f env x with
  | some (ds, x1) => match dcLT gt t fk fv (wipeE env vs) ds [] x1 with
    | some (r, x2) => some (.ow (.dt r), x2)
    | none => none
  | none => none
theorem dset_tup {X : Cx} {pins : List (Addr × Obj)} {σ : L2.St} {H : Hp} {s : Shared} {E : Value → Shared → Prop} {D b : Addr} {kvs : List (List L2.Key × V)} {k : List L2.Key} {v : V} {r : Value} {Q : Unit → Shared → Prop} (hu : X.A.units < cLine) (I : L2.Inv X pins σ H s)
    (e : H D = some (.dT kvs)) (eb : H b = some (.tup (k.map kV))) (room : kvs.length < sizeLine) (rv : RelV v r) (h : ∀ s', L2.Inv X pins σ (upd H D (.dT (putK kvs k v))) s' → Q () s') :
    wpAny (model X.prog X.w) X.A (dictSet D (.ref b) r) Q E s := by
  obtain ⟨big, fr, ys, rel, dd⟩ := dt_of I.hok e
  have fit : ys.length ≤ sizeLine := by rw [← Paired.length rel]; exact big
  have fit' : (putK kvs k v).length ≤ sizeLine := by have := length_putK kvs k v; omega
  refine wpAny_dictSet_heap (hsz := fit) hu (key_of I.hok eb) dd fun h1 d1 sb => h _ ?_
  obtain ⟨o, es, ep, ho, q2, q3, q4, _, q5⟩ := d1
  refine d_write I (by rw [e]; exact True.intro) sb ⟨o, ho⟩ ⟨fit', fr, _, (rel.put k eb rv).keeps fun c zs ec => ?_, o, es, ep, ho, q2, q3, q4, q5⟩
  rw [upd_ne (L2.ne_of ec e (fun z => nomatch z))]; exact ec
section
variable {X : Cx} {kx vx tg iter : Expr} {ifs : List Expr} {scope : Scope} {own : List (Str × Nat)} {pos : Pos} {wi : TI} {g : TG} {tt : TT} {tk tv : TE}
/-- {k: v for .. in .. if ..}, k a tuple of ints and texts -/
def tDcT (wi : TI) (g : TG) (tt : TT) (tk tv : TE) (vs : List Nat) : TE := fun σ H Q => wi σ H fun J H1 => ∀ p, H1 p = none →
  ∃ W : Nat → Nat → Hp → Prop, (∃ m, W 0 m (upd H1 p (.dT []))) ∧ ∀ i m H, W i m H → (J.stop i H ∧ Q (.ref p) H) ∨
    (J.go i H ∧ ∃ Nx : Hp → Prop, (∀ H', Nx H' → ∃ m', m' < m ∧ W (i + 1) m' H') ∧ ∀ x H', J.yld i H x H' → g x (wipe σ vs) H' fun σ2 H2 => wipe σ2 vs = wipe σ vs ∧ tt σ2 H2 fun b H3 =>
      if b = true then tk σ2 H3 fun y H4 => tv σ2 H4 fun z H5 => ∃ kvs k c, y = .ref c ∧ H5 c = some (.tup (k.map kV)) ∧ H5 p = some (.dT kvs) ∧ kvs.length < sizeLine ∧ Nx (upd H5 p (.dT (putK kvs k z))) else Nx H3)
theorem pe_dcT (hu : X.A.units < cLine) (hc : X.calm = true) (hN : X.N.Nodup) (hi : PI X tg iter wi) (ok : BlkOk X.N X.env.scope scope own)
    (hg : ∀ (s : Shared) (H : Hp) (C : Addr) (cl : List (Str × Addr)) (fp : List Addr), PG (X.blk s H scope (compEnvC scope cl C X.env) fp) tg g)
    (ht : ∀ (s : Shared) (H : Hp) (C : Addr) (cl : List (Str × Addr)) (fp : List Addr), PTs (X.blk s H scope (compEnvC scope cl C X.env) fp) ifs tt)
    (hk : ∀ (s : Shared) (H : Hp) (C : Addr) (cl : List (Str × Addr)) (fp : List Addr), PE (X.blk s H scope (compEnvC scope cl C X.env) fp) kx tk)
    (he : ∀ (s : Shared) (H : Hp) (C : Addr) (cl : List (Str × Addr)) (fp : List Addr), PE (X.blk s H scope (compEnvC scope cl C X.env) fp) vx tv)
    (hs : ∀ x, foldedSetIterable iter X.env x = pure x := by intro _; rfl) : PE X (.DictComp kx vx [⟨tg, iter, ifs, 0⟩] scope pos) (tDcT wi g tt tk tv (own.map (·.2))) := by
  refine ⟨fun pins s σ H Q I h => ?_⟩
  rw [arm_eval_DictComp]
  have clo : ∀ y ∈ scope.names, y.2 = .free → ∃ c, X.env.cells.lookup y.1 = some c := fun y hy e => (ok.free y hy e).elim (fun k => I.ok.has _ (.inl k)) fun k => I.ok.has _ (.inr k)
  refine wpAny_comprehension_free (use := none) rfl hs (closure_ok clo) ok.kind (fun y hy e => by rw [ok.uniq y hy, e]) (thn (hi.run pins s σ H _ I h) fun xv s1 hx => thn hx fun itv s2 h2 => ?_)
  obtain ⟨it, fp, tn, J, H2, rfl, I2, T, st2, f2, q⟩ := h2
  refine wpAny_newObj_type (newEnv_comp ?_)
  let eo : Obj := { cls := .type "dict", data := .dict #[] }
  let p : Addr := s2.heap.objs.size
  have hpn : H2 p = none := I2.hok.fresh (Nat.le_refl _)
  obtain ⟨W, ⟨m0, w0⟩, turn⟩ := q p hpn
  let s3 : Shared := { s2 with heap := s2.heap.push eo }
  let H3 : Hp := upd H2 p (.dT [])
  have I3 : L2.Inv X pins σ H3 s3 := I2.laid (t' := s2.toks) (fun b o e => Heap.get?_push_of_some _ e) (Nat.le_refl _) (dt_empty s2.heap I2.big)
  have low : ∀ b ∈ fp, b < s2.heap.objs.size := fun b hb => let ⟨_, e, _⟩ := T.obj _ _ st2 b hb; Heap.lt_size e
  have f3 : ∀ b ∈ fp, FpOk X pins H3 b ∧ b < s3.heap.objs.size := fun b hb => by
    have hlt := low b hb
    refine ⟨⟨?_, (f2 b hb).2⟩, by show b < (s2.heap.push eo).objs.size; rw [Heap.size_push]; exact Nat.lt_succ_of_lt hlt⟩
    show upd H2 p _ b = none
    rw [upd_ne (show b ≠ p from Nat.ne_of_lt hlt)]
    exact (f2 b hb).1
  have st3 : tn 0 s3.heap := T.keep _ _ _ st2 fun b _ o e => Heap.get?_push_of_some _ e
  have I4 := block_start I3 ok hN f3
  have pg := hg s3 H3 s3.heap.objs.size (cellsFrom (s3.heap.objs.size + 1) scope.names (cloFrom X.env.cells scope.names [])) fp
  have pt := ht s3 H3 s3.heap.objs.size (cellsFrom (s3.heap.objs.size + 1) scope.names (cloFrom X.env.cells scope.names [])) fp
  have pk := hk s3 H3 s3.heap.objs.size (cellsFrom (s3.heap.objs.size + 1) scope.names (cloFrom X.env.cells scope.names [])) fp
  have pe := he s3 H3 s3.heap.objs.size (cellsFrom (s3.heap.objs.size + 1) scope.names (cloFrom X.env.cells scope.names [])) fp
  have nfp : ∀ b ∈ fp, H3 b = none := fun b hb => (f3 b hb).1.1
  have w0 : W 0 m0 H3 := w0
  clear_value H3
  show codeAny (model X.prog X.w) X.A (.compStart (.DictComp kx vx [⟨tg, iter, ifs, 0⟩] scope pos) 0 (.ref it) (.ref p) (compEnvC scope (cellsFrom (s3.heap.objs.size + 1) scope.names (cloFrom X.env.cells scope.names [])) s3.heap.objs.size X.env)) (compPost (model X.prog X.w) X.A X.xe none (EP X pins σ Q) (.ref p) s3.heap.objs.size) _
  generalize hce : compEnvC scope (cellsFrom (s3.heap.objs.size + 1) scope.names (cloFrom X.env.cells scope.names [])) s3.heap.objs.size X.env = ce at I4 pg pt pk pe ⊢
  have cL : ce.locals = s3.heap.objs.size := by rw [← hce] <;> rfl
  generalize hs4 : ({ s3 with heap := pushCells (s3.heap.push { cls := .type "dict", data := .dict #[] }) scope.names } : Shared) = s4 at I4 ⊢
  have st4 : tn 0 s4.heap := T.keep _ _ _ st3 fun b _ o e => by rw [← hs4]; exact pushCells_keeps _ _ _ _ (Heap.get?_push_of_some _ e)
  have stat : ∀ {σ' : L2.St} {H' : Hp} {s' : Shared}, L2.Inv (X.blk s3 H3 scope ce fp) [] σ' H' s' → (∀ b ∈ fp, H' b = none) → ∀ b ∈ fp, FpOk (X.blk s3 H3 scope ce fp) [] H' b := fun {σ' H' s'} I' hn b hb =>
    ⟨hn b hb, (I'.ok.exf b hb).1, I'.ok.exfs b hb, .inl hb, fun x c e => (I'.ok.exf b hb).2 x c e, fun r hr => absurd (show r ∈ ([] : List (Addr × Obj)) ++ [] from hr) (by simp)⟩
  refine codeAny_compStart_dict ?loop (T.self X.A 0 _ _ _ st4 ?loop)
  refine compLoop_anyD (fun n s' => ∃ i H', L2.Inv (X.blk s3 H3 scope ce fp) [] (wipe σ (own.map (·.2))) H' s' ∧ tn i s'.heap ∧ (∀ b ∈ fp, H' b = none) ∧ W i n H') ?_ m0 ⟨0, H3, I4, st4, nfp, w0⟩
  rintro n s5 ⟨i, H5, I5, st5, n5, w5⟩
  rcases turn i n H5 w5 with ⟨stop, qq⟩ | ⟨go, Nx, hNx, step⟩
  · refine thnF (T.done (X.blk s3 H3 scope ce fp) rfl rfl rfl hc i [] s5 _ H5 (fun _ _ => False) I5 (stat I5 n5) st5 stop) fun r s6 ⟨hr, I6⟩ => ?_
    subst hr
    have I7 : L2.Inv X pins σ H5 s6 := I3.call' (ch := fp) I6.os I6.base I6.hok I6.bare fun b hb =>
      let ⟨_, a1, _, a3, a4, a5⟩ := (f3 b hb).1
      ⟨a3, a1, a4, a5⟩
    have nC : H5 s3.heap.objs.size = none := cL ▸ I6.free
    obtain ⟨m, hn, _⟩ := I6.loc
    have hn : s6.heap.Ns s3.heap.objs.size m := cL ▸ hn
    obtain ⟨a0, a1, a2, a3, a4, a5⟩ := I3.fpOk (H' := H5) (Nat.le_refl _) nC
    exact ⟨m, hn, fun h9 sb => ⟨.ref p, H5, I7.turned (t' := s6.toks) (fun b o hb e => (sb.2 b hb).trans e) a0 a1 a3 a4 a5, rfl, qq⟩⟩
  · refine thnF (T.item (X.blk s3 H3 scope ce fp) rfl rfl rfl hc i [] s5 _ H5 (fun _ _ => False) I5 (stat I5 n5) st5 go) fun r s6 ⟨u, hr, h6⟩ => ?_
    subst hr
    refine thnF h6 fun _ s7 ⟨x, H7, I7, r7, y7, st7, n7⟩ => ?_
    refine thnF (pg.run _ s7 _ H7 x u _ (I7.pinned (stat I7 n7) (T.obj _ _ st7)) r7 (step x H7 y7)) fun _ s8 ⟨σ8, H8, I8, hw8, q8⟩ => ?_
    refine thnF (pt.run _ s8 σ8 H8 _ I8 q8) fun b s9 ⟨H9, I9, q9⟩ => ?_
    have fin : ∀ {s' : Shared} {H' : Hp}, L2.Inv (X.blk s3 H3 scope ce fp) ([] ++ pinsAt fp s7.heap) σ8 H' s' → Nx H' → ∃ m, m < n ∧ ∃ i H', L2.Inv (X.blk s3 H3 scope ce fp) [] (wipe σ (own.map (·.2))) H' s' ∧ tn i s'.heap ∧ (∀ b ∈ fp, H' b = none) ∧ W i m H' := fun {s' H'} I' nx => by
      obtain ⟨m', hm, w'⟩ := hNx H' nx
      have stays : ∀ b ∈ fp, ∀ o, s7.heap.get? b = some o → s'.heap.get? b = some o ∧ H' b = none := fun b hb o e => by
        obtain ⟨z1, z2, _⟩ := I'.pin (b, o) (List.mem_append_right _ (List.mem_append_right _ (mem_pinsAt hb e)))
        exact ⟨z1, z2⟩
      refine ⟨m', hm, i + 1, H', (I'.unpinned (pins := [])).weak (by rw [← hw8, wipe_length]) fun j v e => ?_, T.keep _ _ _ st7 fun b hb o e => (stays b hb o e).1, fun b hb => ?_, w'⟩
      · rw [← hw8] at e
        exact (wipe_some e).1
      · obtain ⟨o, e, _⟩ := T.obj _ _ st7 b hb
        exact (stays b hb o e).2
    cases b with
    | false =>
      rw [if_neg Bool.false_ne_true] at q9 ⊢
      exact fin I9 q9
    | true =>
      rw [if_pos rfl] at q9 ⊢
      refine thnF (pk.run _ s9 σ8 H9 _ I9 q9) fun z s10 ⟨yv, H10, I10, r10, q10⟩ => thnF (pe.run _ s10 σ8 H10 _ I10 q10) fun z2 s11 ⟨wv, H11, I11, r11, kvs, k, c, ey, hcc, h11, hz, nx⟩ => ?_
      subst ey
      obtain rfl : z = Value.ref c := r10
      exact dset_tup (X := X.blk s3 H3 scope ce fp) hu I11 h11 hcc hz r11 fun s12 I12 => fin I12 nx
end
theorem dc_readT {ω : World} {K : PySem.W.Frag} {f : FA} {gt : FGt} {t : FT} {fk fv : FE} {vs : List Nat} {σ : L2.St} {H : Hp} {Q : VK} (h : tX ω K (xDcT f gt t fk fv vs) σ H Q) : tDcT (tI ω K f) (tG ω K vs gt) (tT ω K t) (tE ω K fk) (tE ω K fv) vs σ H Q := by
  obtain ⟨g, O, env, x, sl, x', S, e, k⟩ := h
  unfold xDcT at e
  split at e
  · rename_i ds x1 e1
    split at e
    · rename_i rs x2 e2
      cases e
      refine ⟨g, O, env, x, ds, x1, S, e1, fun J more H1 S1 l1 wk p hp => ?_⟩
      have n1 := S1.newp hp
      have hp0 : Gone H p := Le.gone l1 (.of hp) S1.unadd
      have hne : ∀ (j : Nat) d b, env[j]? = some d → isOwn d = true → σ[j]? = some (some (.ref b)) → b ≠ p := fun j d b h1 h0 h2 => own_ne2 S1 (.of hp) h1 h0 h2
      refine ⟨fun i m H2 => m = ds.length - i ∧ i ≤ ds.length ∧ Le g H H2 ∧ ∃ x kvs acc, FSt ω K (g.add more) (oAdd O p) σ H2 env x ∧ H2 p = some (.dT kvs) ∧ RpT K (oAdd O p) H2 kvs acc ∧ dcLT gt t fk fv (wipeE env vs) (ds.drop i) acc x = some (rs, x'),
        ⟨_, rfl, Nat.zero_le _, l1.trans (.of (same_upd hp)), x1, [], [], S1.own hp True.intro, upd_same, .nil, e2⟩, fun i m H2 hW => ?_⟩
      obtain ⟨rfl, hil, lH, x, kvs, acc, S2, hacc, racc, e⟩ := hW
      obtain ⟨wgo, wst⟩ := wk _ σ H2 env x i S2
      by_cases hlt : i < ds.length
      · have hd : ds[i]? = some ds[i] := List.getElem?_eq_getElem hlt
        obtain ⟨go, yl⟩ := wgo _ hd
        rw [drop_get hd] at e
        refine .inr ⟨go, fun H2 => i + 1 ≤ ds.length ∧ Le g H H2 ∧ ∃ x kvs acc, FSt ω K (g.add more) (oAdd O p) σ H2 env x ∧ H2 p = some (.dT kvs) ∧ RpT K (oAdd O p) H2 kvs acc ∧ dcLT gt t fk fv (wipeE env vs) (ds.drop (i + 1)) acc x = some (rs, x'),
          fun H' hN => ⟨ds.length - (i + 1), by omega, rfl, hN.1, hN.2⟩, fun v H3 hy => ?_⟩
        obtain ⟨sm, rv⟩ := yl v H3 hy
        unfold dcLT at e
        split at e
        · cases e
        · rename_i env1 e3
          have S3 := S2.same sm
          refine ⟨g.add more, oAdd O p, wipeE env vs, x, ds[i], env1, S3.wiped vs, rv, e3, fun σ1 w1 S4 => ⟨w1.trans (wipe_wipe σ vs), ?_⟩⟩
          split at e
          · rename_i xb e4
            split at e
            · rename_i kd x3 e5
              split at e
              · rename_i q e6
                split at e
                · rename_i vd x4 e7
                  split at e
                  · rename_i hl
                    refine ⟨g.add more, oAdd O p, env1, x, _, xb, S4, e4, fun H5 S5 l5 => ?_⟩
                    refine iteT ?_
                    refine ⟨g.add more, oAdd O p, env1, xb, kd, x3, S5, e5, fun y H6 S6 l6 r6 => ⟨g.add more, oAdd O p, env1, x3, vd, x4, S6, e7, fun z H7 S7 l7 r7 => ?_⟩⟩
                    have l8 : Le (g.add more) H2 H7 := (Le.of sm).trans (l5.trans (l6.trans l7))
                    have S8 := S2.step l8 S7.tb fun r hr => (S7.row r hr).2.2
                    have hacc' := l8 p _ n1.2 hacc rfl
                    have ek := dKeyT_ok e6
                    subst ek
                    obtain ⟨b', xs, rfl, hb, hx⟩ := (r6.step S6 l7).tupAt
                    rw [rp_keys hx] at hb
                    refine ⟨kvs, q, b', rfl, hb, hacc', by rw [racc.length]; exact maxLen_lt hl, hlt, ?_, x4, _, _, S8.upd1 hacc' notC_dT (.inr rfl) n1.1 n1.2 True.intro hne (fun j d b h1 h2 => own_nd S (lH.trans l8) hp0 h1 h2), upd_same, ?_, e⟩
                    · intro c u hR e tn
                      have z : c ≠ p := fun z => by rw [z] at e; exact hp0.no e tn
                      rw [upd_ne z]
                      exact l8 c u hR (lH c u hR e tn) tn
                    · exact (RpT.put (racc.move (S2.keep l8) .refl) r7).move (keep_own S8 (.inr rfl)) .refl
                  · cases e
                · cases e
              · cases e
            · cases e
          · rename_i xb e4
            refine ⟨g.add more, oAdd O p, env1, x, _, xb, S4, e4, fun H5 S5 l5 => ?_⟩
            refine iteF ?_
            have l7 : Le (g.add more) H2 H5 := (Le.of sm).trans l5
            have S7 := S2.step l7 S5.tb fun r hr => (S5.row r hr).2.2
            exact ⟨hlt, fun c u hR e tn => l7 c u hR (lH c u hR e tn) tn, xb, kvs, acc, S7, l7 p _ n1.2 hacc rfl, racc.move (S2.keep l7) .refl, e⟩
          · cases e
      · have hi : i = ds.length := by omega
        rw [hi, List.drop_length] at e
        unfold dcLT at e
        cases e
        refine .inl ⟨wst hi, k (oAdd O p) _ H2 S2.unadd lH (fun a z => z.elim .inl fun e => .inr (e ▸ hp0)) (fun a z => .inl z) (.ow (.inr rfl) n1.1 n1.2 ⟨kvs, hacc, racc⟩) ⟨p, rfl, hp0⟩⟩
    · cases e
  · cases e
section
variable {X : Cx} {a b c e : Expr} {es : List Expr} {fa fb fc f : FE} {pos : Pos}
theorem sx_dcT {kx vx tg iter : Expr} {ifs : List Expr} {scope : Scope} {own : List (Str × Nat)} {f : FA} {gt : FGt} {t : FT} {fk fv : FE} (hu : X.A.units + 1 < cLine) (hc : X.calm = true) (hN : X.N.Nodup) (hi : SI X tg iter f) (ok : BlkOk X.N X.env.scope scope own)
    (hg : ∀ (s : Shared) (H : Hp) (C : Addr) (cl : List (Str × Addr)) (fp : List Addr), SG (X.blk s H scope (compEnvC scope cl C X.env) fp) tg (own.map (·.2)) gt)
    (ht : ∀ (s : Shared) (H : Hp) (C : Addr) (cl : List (Str × Addr)) (fp : List Addr), STs (X.blk s H scope (compEnvC scope cl C X.env) fp) ifs t)
    (hk : ∀ (s : Shared) (H : Hp) (C : Addr) (cl : List (Str × Addr)) (fp : List Addr), SE (X.blk s H scope (compEnvC scope cl C X.env) fp) kx fk)
    (he : ∀ (s : Shared) (H : Hp) (C : Addr) (cl : List (Str × Addr)) (fp : List Addr), SE (X.blk s H scope (compEnvC scope cl C X.env) fp) vx fv) (hs : ∀ x, foldedSetIterable iter X.env x = pure x := by intro _; rfl) :
    SX X (.DictComp kx vx [⟨tg, iter, ifs, 0⟩] scope pos) (xDcT f gt t fk fv (own.map (·.2))) :=
  ⟨PEw (pe_dcT (by omega) hc hN hi.out ok (fun s H C cl fp => (show PG _ tg (tG X.w X.K (own.map (·.2)) gt) from (hg s H C cl fp).out)) (fun s H C cl fp => (show PTs _ ifs (tT X.w X.K t) from (ht s H C cl fp).out)) (fun s H C cl fp => (show PE _ kx (tE X.w X.K fk) from (hk s H C cl fp).out)) (fun s H C cl fp => (show PE _ vx (tE X.w X.K fv) from (he s H C cl fp).out)) hs) fun σ H Q h => dc_readT h⟩
end
end RT
namespace RT
open PySem PySem.Spec PyProof.Rows L2
/-! ### sorted(t), t a tuple of tuples that are alike -/
def gSortU : List D → Option D
  | [.tuple ds] => gSortD [.list ds]
  | _ => none
section
variable {X : Cx}
theorem cd_sortU (hu : X.A.units + 66 < cLine) : CallD X (.builtin "sorted") gSortU := by
  intro pins s σ H vs us Q I rv h
  obtain ⟨g, O, σ', env, x, ds, z, S, rr, e, k⟩ := h
  unfold gSortU at e
  split at e
  · rename_i dsT
    unfold gSortD at e
    split at e
    · rename_i ds0 eds
      injection eds with eds1 eds2
      injection eds1 with eds1
      subst eds1
      split at e
      · rename_i hcond
        cases e
        simp only [Bool.and_eq_true, decide_eq_true_eq] at hcond
        obtain ⟨⟨⟨hs, ht⟩, ha⟩, hlen⟩ := hcond
        cases rr with
        | cons r r' =>
        cases r'
        obtain ⟨p, xs, rfl, hp, rx⟩ := r.tup.tupAt
        rw [Vals.ref1 rv]
        obtain ⟨its, rvs, ⟨o, ho, hcls, n, hdat⟩, hz0⟩ := I.tuple (.of hp)
        have hl2 : its.length = xs.length := rvs.length.symm
        refine Calls.call_function_entry kind_sorted plain_sorted entry_sorted (args_sorted1 _) ?_
        rw [Builtin.«sorted»]
        refine wpAny_bind (m := checkCount "sorted" 1 1 1) (wpAny_pure (wpAny_bind ?_))
        refine wpAny_collect_seq (A := X.A.in1) p (.inr rfl) ho hcls hdat (fun h1 kp => ?_) (by show its.toArray.size ≤ sizeLine; simpa [hl2] using hz0)
        rw [show its.toArray.toList = its from rfl]
        have hlay := SeqAt.canLay_of_shaped hs
        have hdep := SeqAt.depth_of_shaped hs
        have hlay' : PyData.canLayAll0 (pyAll (dsT)) = true := by simpa [D.py, PyData.canLay0] using hlay
        obtain ⟨as, rd⟩ := Dp.readsAll I (pyAll (dsT)) _ its (rx.dp hlay') rvs
        have there := readsAll_there rd
        rw [pyAll_map] at rd
        have hz : its.length ≤ sizeLine := by rw [hl2]; exact hz0
        refine wpAny_bind (wpAny_newList ?_ hz)
        have fresh : ∀ b o, s.heap.get? b = some o → b ≠ h1.objs.size := fun b o e => Nat.ne_of_lt (Heap.lt_size (kp b o e))
        have hD : (h1.push { cls := .type "list", data := .seq its.toArray }).get? h1.objs.size = some (seqObj "list" its.toArray 0) := Heap.get?_push_size _ rfl
        have keep : ∀ b o, s.heap.get? b = some o → (h1.push { cls := .type "list", data := .seq its.toArray }).get? b = some o := fun b o e => Heap.get?_push_of_some _ (kp b o e)
        have er0 := PySem.W.readsAll_each D.py rd
        refine wpAny_bind (wpAny_holding (wpAny_mono (PySem.W.list_sort_data (s := { s with heap := h1.push { cls := .type "list", data := .seq its.toArray } }) (a := h1.objs.size) (n := 0) (vs := its) (enc := D.py) (bs := dsT) (R := fun u d => ∃ v, RelV v u ∧ Rp X.K O H v d)
          (Q := fun _ s' => EP X pins σ Q (.ref h1.objs.size) s') hD (each_of rvs rx) ?_ ?_ ?_ (maxLen_ok hlen) ?_ (fun out hlo heo => ?_)) (fun _ s' q => wpAny_pure ⟨_, rfl, q⟩) fun _ _ e => e))
        · exact each_as keep fresh rd there
        · intro d hd1 d' hd'
          obtain ⟨b, hb, rfl⟩ := List.mem_map.mp hd1
          obtain ⟨b', hb', rfl⟩ := List.mem_map.mp hd'
          exact List.all_eq_true.mp (List.all_eq_true.mp ha b hb) b' hb'
        · refine .inl fun d hd1 => ?_
          obtain ⟨b, hb, rfl⟩ := List.mem_map.mp hd1
          have q := List.all_eq_true.mp ht b hb
          cases b with
          | tuple xs =>
            cases xs with
            | nil => simp at q
            | cons x xs => exact ⟨x.py, pyAll xs, by rw [D.py, pyAll]⟩
          | _ => simp at q
        · intro b hb
          have dl : ∀ {ds : List D}, b ∈ ds → b.py.depth ≤ PyData.depthAll (pyAll ds) := fun {ds} => by
            induction ds with
            | nil => intro h; cases h
            | cons d ds ih =>
              intro h
              rw [pyAll, PyData.depthAll]
              rcases List.mem_cons.mp h with rfl | h
              · exact Nat.le_max_left _ _
              · exact Nat.le_trans (ih h) (Nat.le_max_right _ _)
          have h1 := dl hb
          have h2 : PyData.depthAll (pyAll (dsT)) + 1 ≤ 64 := by simpa [D.py, PyData.depth, Nat.add_comm] using hdep
          show X.A.units + 1 + 1 + b.py.depth < cLine
          omega
        · obtain ⟨zs, q1, q2⟩ := of_each heo
          obtain ⟨ep', he'⟩ := PyProof.Rows.sortedHeap_at (out := out.toArray) hD
          have hzs : zs.length ≤ sizeLine := by
            rw [q2.length, List.length_mergeSort]; exact maxLen_ok hlen
          have hno : s.heap.get? h1.objs.size = none := by
            cases q : s.heap.get? h1.objs.size with
            | none => rfl
            | some o => exact absurd rfl (fresh _ o q)
          have hn : H h1.objs.size = none := by
            cases q : H h1.objs.size with
            | none => rfl
            | some u => exact absurd ((I.hok.kept kp).lt q) (Nat.lt_irrefl _)
          have sm := same_upd (o := .lst zs) hn
          refine ⟨.ref _, upd H h1.objs.size (.lst zs), I.laidN (t' := s.toks) (fun b o e => ?_) hno hn ⟨hzs, out, ep', q1, he'⟩, rfl, k _ _ sm (.lst (S.notO hn) upd_same (q2.move (.of sm) .refl))⟩
          exact (PyProof.Rows.sortedHeap_old (fresh b o e) (Heap.lt_size (keep b o e))).trans (keep b o e)
      · cases e
    · rename_i hno
      exact absurd rfl (hno _)
  · cases e
def gSortV : List D → Option D := cOr gSortX gSortU
theorem cd_sortV (hu : X.A.units + 66 < cLine) : CallD X (.builtin "sorted") gSortV := (cd_sortX hu).or (cd_sortU hu)
end
end RT
namespace RT
open PySem PySem.Spec PyProof.Rows L2
/-! ### min(xs), xs a list of data that are alike -/
end RT
namespace RT
open PySem PySem.Spec PyProof.Rows L2
/-! ### comprehensions over the keys of a local dict; it is locked meanwhile -/
/-! ### the truth of a dict -/
section
variable {X : Cx} {a : Expr} {fa : FE}
theorem RpK.emp {K : PySem.W.Frag} {O : Addr → Prop} {H : Hp} {kvs : List (L2.Key × V)} {ds : List (D × D)} (r : RpK K O H kvs ds) : kvs.isEmpty = ds.isEmpty := by cases r <;> rfl
end
end RT
namespace RT
open PySem PySem.Spec PyProof.Rows L2
/-! ### {k: v}, k a tuple of ints and texts -/
end RT
namespace RT
open PySem PySem.Spec PyProof.Rows L2
/-! ### d = {}; d.setdefault(k, []).extend(t): an owned dict of owned lists -/
/-! ### the state -/
section
variable {ω : World} {K : PySem.W.Frag} {g : FG} {O : Addr → Prop} {σ : L2.St} {H : Hp} {env : FEn} {x : FRow}
def noNdE (env : FEn) : Bool := env.all fun s => match s with
  | .nd _ => false
  | _ => true
end
end RT
namespace RT
open PySem PySem.Spec PyProof.Rows L2
def extD (k : D) (q : List L2.Key) (es : List D) : List (D × D) → List (D × D)
  | [] => [(k, .list es)]
  | (k', .list ys) :: ds => if dKeyT k' = some q then (k', .list (ys ++ es)) :: ds else (k', .list ys) :: extD k q es ds
  | p :: ds => p :: extD k q es ds
def ndLen (q : List L2.Key) (ds : List (D × D)) : Nat := match valD dKeyT ds q with
  | some (.list ys) => ys.length
  | _ => 0
/-- n = {} -/
def sNdD (i : Nat) : FS := fun env x => if noNdE env = true then some (.nx (env.set i (.nd (.dt []))), x) else none
/-- n.setdefault(k, []).extend(t) -/
def sSdExt (i : Nat) (fk fe : FE) : FS := fun env x => match fk env x with
  | some (k, x1) => match dKeyT k with
    | some q => match env[i]? with
      | some (.nd (.dt ds)) => if ds.length < maxLen then
          match fe (env.set i (.nd (.dt (extD k q [] ds)))) x1 with
          | some (.tuple es, x2) => if ndLen q ds + es.length ≤ maxLen then some (.nx (env.set i (.nd (.dt (extD k q es ds)))), x2) else none
          | _ => none
        else none
      | _ => none
    | none => none
  | none => none
/-- an owned thing of lists is given up ahead of a statement -/
def eFrzN (i : Nat) (env : FEn) : FEn := match env[i]? with
  | some (.nd d) => env.set i (.va d.d)
  | _ => env
def sFrzN (i : Nat) (f : FS) : FS := fun env x => f (eFrzN i env) x
end RT
namespace RT
open PySem PySem.Spec PyProof.Rows L2
/-! ### set(xs), xs a list of ints, under sorted -/
def nSetL (fa : FE) : FN := fun env x => match fa env x with
  | some (.list ds, x1) => match intsD ds with
    | some ns => if ns.length < 64 then some (ns, x1) else none
    | none => none
  | _ => none
end RT
namespace RT
open PySem PySem.Spec PyProof.Rows L2
/-! ### d.get(k, v), d.get(k); xs[i] += v; xs[i] = v; xs.append(ys.pop(i)) -/
/-- what a dict holds -/
def gGet : D → D → Option (Option D)
  | .dict kvs, k => (dKey k).map fun q => valD dKey kvs q
  | .dictT kvs, k => (dKeyT k).map fun q => valD dKeyT kvs q
  | _, _ => none
def fGet2 (fa fk fv : FE) : FE := fun env x => match fa env x with
  | some (d, x1) => match fk env x1 with
    | some (k, x2) => match fv env x2 with
      | some (v, x3) => match gGet d k with
        | some r => some (r.getD v, x3)
        | none => none
      | none => none
    | none => none
  | none => none
section
variable {ω : World} {K : PySem.W.Frag} {g : FG} {O : Addr → Prop} {H : Hp}
theorem get_isD {v : V} {d k : D} {r : Option D} (h : gGet d k = some r) (q : RpB K g O H v d) : ∃ a, v = .ref a ∧ IsD H a := by
  cases d with
  | dict kvs => obtain ⟨a, kvs', rfl, e, _⟩ := q.dct; exact ⟨a, rfl, .inl ⟨_, e⟩⟩
  | dictT kvs => obtain ⟨a, kvs', rfl, e, _⟩ := q.dcT; exact ⟨a, rfl, .inr ⟨_, e⟩⟩
  | _ => cases h
theorem get_at {a : Addr} {y : V} {d k : D} {r : Option D} (h : gGet d k = some r) (q : RpB K g O H (.ref a) d) (qk : Rp K O H y k) : ∃ o, DGet H a y o ∧ ∀ z w, Rp K O H z w → Rp K O H (o.getD z) (r.getD w) := by
  cases d with
  | dict kvs =>
    obtain ⟨_, kvs', e0, e, rk⟩ := q.dct
    cases e0
    unfold gGet at h
    obtain ⟨c, hc, rfl⟩ := Option.map_eq_some_iff.mp h
    have ey := dKey_rp hc qk
    subst ey
    refine ⟨_, .inl ⟨kvs', c, e, rfl, rfl⟩, fun z w rz => ?_⟩
    rcases rk.val (k := c) with ⟨z1, z2⟩ | ⟨v2, d2, z1, z2, z3⟩
    · rw [z1, z2]; exact rz
    · rw [z1, z2]; exact z3
  | dictT kvs =>
    obtain ⟨_, kvs', e0, e, rk⟩ := q.dcT
    cases e0
    unfold gGet at h
    obtain ⟨c, hc, rfl⟩ := Option.map_eq_some_iff.mp h
    have ek := dKeyT_ok hc
    subst ek
    obtain ⟨b, xs, rfl, hb, hx⟩ := qk.tupAt
    rw [rp_keys hx] at hb
    refine ⟨_, .inr ⟨kvs', c, b, e, rfl, hb, rfl⟩, fun z w rz => ?_⟩
    rcases rk.val (k := c) with ⟨z1, z2⟩ | ⟨v2, d2, z1, z2, z3⟩
    · rw [z1, z2]; exact rz
    · rw [z1, z2]; exact z3
  | _ => cases h
end
section
variable {X : Cx} {a b c e : Expr} {fa fk fv : FE} {pos apos cpos : Pos}
theorem se_get2 (hu : X.A.units + 1 < cLine) (ha : SB X a fa) (hk : SE X b fk) (hv : SE X c fv) (m : M2 X a "get" apos b c cpos := by exact ⟨rfl, rfl, rfl, rfl⟩) : SE X (.Call (.Attribute a "get" apos) [b, c] [] cpos) (fGet2 fa fk fv) := by
  refine ⟨PEw (pe_dget2 hu ha.out hk.out hv.out m) fun σ H Q h => ?_⟩
  obtain ⟨g, O, env, x, d, x', S, e, k⟩ := h
  unfold fGet2 at e
  split at e
  · rename_i dd x1 e1
    split at e
    · rename_i kd x2 e2
      split at e
      · rename_i vd x3 e3
        split at e
        · rename_i r e4
          cases e
          refine ⟨g, O, env, x, dd, x1, S, e1, fun v H1 S1 l1 r1 => ?_⟩
          obtain ⟨p, rfl, hp⟩ := get_isD e4 r1
          refine ⟨p, rfl, hp, g, O, env, x1, kd, x2, S1, e2, fun y H2 S2 l2 r2 => ⟨g, O, env, x2, vd, _, S2, e3, fun z H3 S3 l3 r3 => ?_⟩⟩
          obtain ⟨o, ho, q⟩ := get_at e4 ((r1.step S1 l2).step S2 l3) (r2.step S2 l3)
          exact ⟨o, ho, k _ _ S3 (l1.trans (l2.trans l3)) (q _ _ r3)⟩
        · cases e
      · cases e
    · cases e
  · cases e
theorem RpA.set {K : PySem.W.Frag} {O : Addr → Prop} {H : Hp} {v : V} {d : D} (r : Rp K O H v d) : ∀ {vs : List V} {ds : List D} (i : Nat), RpA K O H vs ds → RpA K O H (vs.set i v) (ds.set i d)
  | _, _, _, .nil => .nil
  | _, _, 0, .cons a b => .cons r b
  | _, _, i + 1, .cons a b => .cons a (RpA.set r i b)
theorem RpA.erase {K : PySem.W.Frag} {O : Addr → Prop} {H : Hp} : ∀ {vs : List V} {ds : List D} (i : Nat), RpA K O H vs ds → RpA K O H (vs.eraseIdx i) (ds.eraseIdx i)
  | _, _, _, .nil => .nil
  | _, _, 0, .cons a b => b
  | _, _, i + 1, .cons a b => .cons a (RpA.erase i b)
end
end RT
namespace RT
open PySem PySem.Spec PyProof.Rows L2
/-! ### len(set(..)) -/
end RT
namespace RT
open PySem PySem.Spec PyProof.Rows L2
/-! ### ys = list(xs), owned -/
end RT
namespace RT
open PySem PySem.Spec PyProof.Rows L2
/-! ### d = dict([(k, v) ..]), owned: keys are ints or texts -/
def pairsK : List D → Option (List (L2.Key × D × D))
  | [] => some []
  | .tuple [k, v] :: r => match dKey k, pairsK r with
    | some q, some rs => some ((q, k, v) :: rs)
    | _, _ => none
  | _ => none
def xDictP (f : FE) : FX := fun env x => match f env x with
  | some (.list ds, x1) => match pairsK ds with
    | some rs => some (.ow (.dk (rs.foldl (fun acc p => putD dKey acc p.2.1 p.1 p.2.2) [])), x1)
    | none => none
  | _ => none
theorem pairsK_rp {K : PySem.W.Frag} {O : Addr → Prop} {H : Hp} : ∀ {ds : List D} {rs : List (L2.Key × D × D)} {xs : List V}, pairsK ds = some rs → RpA K O H xs ds →
    ∃ (ps : List Addr) (kvs : List (L2.Key × V)), xs = ps.map V.ref ∧ Paired (fun p kv => SqT K H p [kV kv.1, kv.2]) ps kvs ∧ ∀ acc dacc, RpK K O H acc dacc → RpK K O H (mergeK acc kvs) (rs.foldl (fun acc p => putD dKey acc p.2.1 p.1 p.2.2) dacc)
  | [], rs, xs, e, r => by
    cases e
    cases r
    exact ⟨[], [], rfl, .nil, fun acc dacc q => q⟩
  | d :: ds, rs, xs, e, r => by
    cases r with
    | cons a r' =>
      unfold pairsK at e
      split at e
      · rename_i hh; cases hh
      · rename_i k v rr heq
        cases heq
        split at e
        · rename_i ks rs' e1 e2
          cases e
          obtain ⟨ps, kvs, rfl, hp, hm⟩ := pairsK_rp e2 r'
          cases a with
          | tup n1 q1 a1 =>
            cases a1 with
            | cons ak a2 =>
              cases a2 with
              | cons av a3 =>
                cases a3
                have ek := dKey_ok e1
                have ev := dKey_rp e1 ak
                subst ek
                subst ev
                refine ⟨_ :: ps, (ks, _) :: kvs, rfl, .cons (.of q1) hp, fun acc dacc q => ?_⟩
                exact hm _ _ (q.put av)
        · cases e
      · cases e
section
variable {X : Cx} {a : Expr} {fa : FE} {pos : Pos}
theorem sx_dictP {p : Pos} (hc : X.calm = true) (hg : Gl X "dict") (hm : X.mg "dict" = none) (ha : SE X a fa) (hs : starEach [a] X.env = (false, eval a X.env) :: starEach [] X.env := by rfl) (hpl : (backTo pos (starEach [] X.env)).any (·.1) = false := by rfl) : SX X (.Call (.Name "dict" p) [a] [] pos) (xDictP fa) := by
  refine ⟨PEw (pe_callTy (call_dictP hc) hg hm (by decide +kernel) (pa_cons ha.out pa_nil hs) (by decide) (by decide) hs hpl) fun σ H Q h => ?_⟩
  obtain ⟨g, O, env, x, sl, x', S, e, k⟩ := h
  unfold xDictP at e
  split at e
  · rename_i ds x1 e1
    split at e
    · rename_i rs e2
      cases e
      refine ⟨g, O, env, x, _, _, S, e1, fun v H1 S1 l1 r1 => ?_⟩
      obtain ⟨p, xs, rfl, q, rx⟩ : ∃ p xs, v = .ref p ∧ H1 p = some (.lst xs) ∧ RpA X.K O H1 xs ds := by
        cases r1 with
        | lst n1 q1 rx => exact ⟨_, _, rfl, q1, rx⟩
      obtain ⟨ps, kvs, rfl, hp, hmm⟩ := pairsK_rp e2 rx
      refine ⟨p, ps, kvs, rfl, .of q, hp, fun l hl' => ?_⟩
      have n1 := S1.newp hl'
      exact k _ _ _ (S1.own (o := .dK (mergeK [] kvs)) hl' True.intro) (l1.trans (.of (same_upd hl'))) (fun a z => z.elim .inl fun e => .inr (e ▸ Le.gone l1 (.of hl') S1)) (fun a z => .inl z) (.ow (.inr rfl) n1.1 n1.2 ⟨_, upd_same, (hmm [] [] .nil).move (.of (same_upd hl')) (wid_add hl')⟩) ⟨l, rfl, Le.gone l1 (.of hl') S1⟩
    · cases e
  · cases e
end
end RT
namespace RT
open PySem PySem.Spec PyProof.Rows L2
/-! ### len(set(xs)), xs a list of texts -/
end RT
namespace RT
open PySem PySem.Spec PyProof.Rows L2
/-! ### not x as a value, x of any kind that has a truth -/
end RT
namespace RT
open PySem PySem.Spec PyProof.Rows L2
/-! ### tuple * int (two or more) -/
end RT
namespace RT
open PySem PySem.Spec PyProof.Rows L2
/-! ### an object that keeps the steps of each position -/
/-! equality of data, keys without truth values -/
/-! readings of dicts with keys of any kind that are any expression's value -/
/-! the class -/
abbrev stF (vc vz : V) (d : Addr) : List (Str × V) := [("cast", vc), ("size", vz), ("known", .ref d)]
def spInitS (w : World) (C : Addr) : Sp := fun vs H Q _ => ∃ (p dx : Addr) (vc vz : V), vs = [.ref p, vc, vz] ∧ H p = some (.ins C dx []) ∧
  ∀ (d : Addr) (H' : Hp), H d = none → H' p = some (.ins C dx (stF vc vz d)) → H' d = some (.ext (RawD w d [])) → (∀ b o, H b = some o → b ≠ p → H' b = some o) → Q .non H'
/-- the memo's pairs are right -/
def MemoOk (mst : List D → Option D) (cd zd : D) (ds : List (D × D)) : Prop := ∀ p ∈ ds, mst [cd, zd, p.1] = some p.2 ∧ keyC p.1 = true
def spKept (w : World) (K : PySem.W.Frag) (C : Addr) (m0 : List D → Option D) : Sp := fun vs H Q _ => ∃ (T : List (Addr × Str)) (O : Addr → Prop) (s dx d : Addr) (vc vz v : V) (mst : List D → Option D) (cd zd pd r : D) (q : NestedKey) (ds : List (D × D)),
  TOK K T ∧ LamX.Tabs T H ∧ (∀ a, O a → MutC (H a)) ∧ O d ∧ ¬ O s ∧ vs = [.ref s, v] ∧ H s = some (.ins C dx (stF vc vz d)) ∧ Rp K O H vc cd ∧ Rp K O H vz zd ∧ Rp K O H v pd ∧ DaAt K O H d w ds ∧ MemoOk mst cd zd ds ∧ ds.length < maxLen ∧
  nk pd = some q ∧ q.depth ≤ 8 ∧ keyC pd = true ∧ m0 [cd, zd, pd] = some r ∧ mst [cd, zd, pd] = some r ∧
  ∀ v' H' ds', (∀ a o, a ≠ d → H a = some o → isNT o = true → H' a = some o) → LamX.Tabs T H' → DaAt K O H' d w ds' → MemoOk mst cd zd ds' → ds'.length ≤ ds.length + 1 → Rp K O H' v' r → Q v' H'
end RT
namespace RT
open PySem PySem.Spec PyProof.Rows L2
/-- what the text tells of the class -/
structure StgC (P : Program) (ω : World) (K : PySem.W.Frag) (mg : Str → Option Value) (base : Heap) (k : Nat) (m0 : List D → Option D) : Prop where
  ex : ∃ (C f1 f2 : Addr) (fd1 fd2 : FuncData), Cls K C ∧ NoAttr K C "cast" ∧ NoAttr K C "size" ∧ PySem.W.nsIn K mainGlobals "Stage" = some (some (.ref C)) ∧ mg "Stage" = some (.ref C) ∧
    Mk K C f1 ∧ FnOk P ω K mg base CX0 1 f1 fd1 ["self", "cast", "size"] (spInitS ω C) ∧ Binds K fd1 ["self", "cast", "size"] [] ∧
    Meth K C "kept_steps" f2 ∧ FnOk P ω K mg base CX0 k f2 fd2 ["self", "position"] (spKept ω K C m0) ∧ Binds K fd2 ["self", "position"] []
theorem StgC.mono {P : Program} {ω : World} {K : PySem.W.Frag} {mg : Str → Option Value} {base : Heap} {k j : Nat} {m0 : List D → Option D} (c : StgC P ω K mg base k m0) (h : k ≤ j) : StgC P ω K mg base j m0 := by
  obtain ⟨C, f1, f2, fd1, fd2, a, b, c, d, e, f, g, h', i, j', k⟩ := c.ex
  exact ⟨C, f1, f2, fd1, fd2, a, b, c, d, e, f, g, h', i, j'.mono h, k⟩
/-! ### stage = Stage(cast, size), and what stands behind it -/
end RT
namespace RT
open PySem PySem.Spec PyProof.Rows L2
/-! ### defs whose first parameter is a stage -/
theorem MemoAt.sub {K : PySem.W.Frag} {O O' : Addr → Prop} {H : Hp} {a : Addr} {w : World} {F : D → Option D} {x : FRow} (h : MemoAt K O' H a w F x) (s : ∀ a, O a → O' a) : MemoAt K O H a w F x := by
  obtain ⟨ds, d, c, l⟩ := h
  exact ⟨ds, d.mv (fun o e _ => e) fun v e r => r.move (fun _ _ _ e _ => e) fun a z => .inl (s a z), c, l⟩
end RT
namespace RT
open PySem PySem.Spec PyProof.Rows L2
/-! ### max(a, b), min(a, b), max(xs, default=d) of whole numbers -/
end RT
namespace RT
open PySem PySem.Spec PyProof.Rows L2
/-! ### sorting that the kernel can run -/
end RT
namespace RT
open PySem PySem.Spec PyProof.Rows L2
end RT
namespace RT
open PySem PySem.Spec PyProof.Rows L2
/-! ### comprehensions over the keys of a dict whose keys are tuples, any expression's value; it is locked meanwhile -/
end RT
namespace RT
open PySem PySem.Spec PyProof.Rows L2
/-! ### xs = [[] for _ in ..], xs[i].append(v) -/
end RT
namespace RT
open PySem PySem.Spec PyProof.Rows L2
end RT
namespace RT
open PySem PySem.Spec PyProof.Rows L2
/-! ### sorted(t), t a tuple of whole numbers -/
end RT
/-! what raises -/
namespace RT
open PySem PySem.Spec PyProof.Rows L2
/-- an error: its class's name, its fields -/
structure Er where
  c : Str
  fs : List (Str × D)
def scV : D → Option V
  | .none => some .non
  | .int i => some (.int i)
  | _ => none
def FldAt (H : Hp) (d : Option Addr) : List (Str × D) → Prop
  | [] => d = none
  | p :: ps => ∃ dx vs, d = some dx ∧ H dx = some (.xd vs) ∧ ∀ q ∈ p :: ps, ∃ v, scV q.2 = some v ∧ vs.lookup q.1 = some v
def ErrAt (K : PySem.W.Frag) (H : Hp) (cls : Value) (d : Option Addr) (e : Er) : Prop :=
  (∃ C, cls = .ref C ∧ PySem.W.nsIn K mainGlobals e.c = some (some (.ref C))) ∧ FldAt H d e.fs
abbrev FZe := FEn → FRow → Option (Er × FRow)
abbrev FZs := FEn → FRow → Option Er
def tXE (ω : World) (K : PySem.W.Frag) (E : XK) (f : FZe) : TE := fun σ H _ => ∃ g O env x er x', FSt ω K g O σ H env x ∧ f env x = some (er, x') ∧
  ∀ cls d H', FSt ω K g O σ H' env x' → Le g H H' → ErrAt K H' cls d er → E cls d H'
def tXS (ω : World) (K : PySem.W.Frag) (E : XK) (f : FZs) : TS := fun _ σ H => ∃ g O env x er, FSt ω K g O σ H env x ∧ f env x = some er ∧
  ∀ cls d H' O' σ' env' x', FSt ω K g O' σ' H' env' x' → ErrAt K H' cls d er → E cls d H'
structure RE (X : Cx) (E : XK) (e : Expr) (f : FZe) : Prop where
  out : PE X e (tXE X.w X.K E f)
structure RS (X : Cx) (E : XK) (e : Stmt) (f : FZs) : Prop where
  out : PS X e (tXS X.w X.K E f)
structure RSs (X : Cx) (E : XK) (e : List Stmt) (f : FZs) : Prop where
  out : PSs X e (tXS X.w X.K E f)
theorem PS_nox {X : Cx} {st : Stmt} {t : TS} (h : PS X.nox st t) : PS X st t := ⟨fun pins s σ H D I hw =>
  wpAny_mono (h.run pins s σ H D (I.wish _) hw) (fun _ _ q => q.unwish) fun _ _ z => False.elim z⟩
theorem PA_nox {X : Cx} {es : List Expr} {t : TA} (h : PA X.nox es t) : PA X es t := ⟨fun p pins s σ H Q I hw =>
  wpAny_mono (h.run p pins s σ H Q (I.wish _) hw) (fun _ _ ⟨v, H', I', r, q⟩ => ⟨v, H', I'.unwish, r, q⟩) fun _ _ z => False.elim z⟩
theorem SS_nox {X : Cx} {st : Stmt} {f : FS} (h : SS X.nox st f) : SS X st f := ⟨PS_nox h.out⟩
theorem SE_nox {X : Cx} {e : Expr} {f : FE} (h : SE X.nox e f) : SE X e f := ⟨PE.nox h.out⟩
theorem ST_nox {X : Cx} {e : Expr} {f : FT} (h : ST X.nox e f) : ST X e f := ⟨PT.nox h.out⟩
theorem SA_nox {X : Cx} {e : List Expr} {f : FA} (h : SA X.nox e f) : SA X e f := ⟨PA_nox h.out⟩
theorem PSor {X : Cx} {st : Stmt} {t u : TS} (h : PS X st t) (h' : PS X st u) : PS X st (fun D σ H => t D σ H ∨ u D σ H) := ⟨fun pins s σ H D I z => z.elim (h.run pins s σ H D I) (h'.run pins s σ H D I)⟩
theorem PEor {X : Cx} {e : Expr} {t u : TE} (h : PE X e t) (h' : PE X e u) : PE X e (fun σ H Q => t σ H Q ∨ u σ H Q) := ⟨fun pins s σ H D I z => z.elim (h.run pins s σ H D I) (h'.run pins s σ H D I)⟩
/-! ### expressions -/
section
variable {X : Cx} {E : XK} {a b c e : Expr} {es : List Expr} {fa fb fc f : FE} {pos : Pos}
def spX (K : PySem.W.Frag) (m : List D → Option Er) : Sp := fun vs H _ E => ∃ T O ds er, TOK K T ∧ LamX.Tabs T H ∧ (∀ a, O a → MutC (H a)) ∧ RpA K O H vs ds ∧ m ds = some er ∧ ∀ cls d H', SameT T H H' → ErrAt K H' cls d er → E cls d H'
/-- a def that may be called, and may raise -/
structure CalleeX (P : Program) (ω : World) (K : PySem.W.Frag) (mg : Str → Option Value) (base : Heap) (k : Nat) (n : Str) (sp : Sp) : Prop where
  ex : ∃ (f : Addr) (fd : FuncData) (ps : List Str), FnOk P ω K mg base (L2.CX P ω) k f fd ps sp ∧ mg n = some (.ref f) ∧ PySem.W.keepIn K (.ref f) = true ∧ Binds K fd ps []
theorem CalleeX.mono {P : Program} {ω : World} {K : PySem.W.Frag} {mg : Str → Option Value} {base : Heap} {k j : Nat} {n : Str} {sp : Sp} (c : CalleeX P ω K mg base k n sp) (h : k ≤ j) : CalleeX P ω K mg base j n sp := by
  obtain ⟨f, fd, ps, a, b, c, d⟩ := c.ex
  exact ⟨f, fd, ps, a.mono h, b, c, d⟩
abbrev TakesE (X : Cx) (E : XK) : Prop := Takes X fun cls d _ H => E cls d H
def xCall (m : List D → Option Er) (fa : FA) : FZe := fun env x => match fa env x with
  | some (ds, x1) => match m ds with
    | some d => some (d, x1)
    | none => none
  | none => none
theorem re_call {k : Nat} {n : Str} {p : Pos} {m : List D → Option Er} {fa : FA} (c : CalleeX X.prog X.w X.K X.mg X.base k n (spX X.K m)) (tk : TakesE X E) (hr : Room k X.A) (hg : Gl X n) (ha : SA X.nox (e :: es) fa) (hdb : (n == ("__debug__" : Str)) = false := by decide)
    (he : starEach (e :: es) X.env = (false, eval e X.env) :: starEach es X.env := by rfl) (hpl : (backTo pos (starEach es X.env)).any (·.1) = false := by rfl) : RE X E (.Call (.Name n p) (e :: es) [] pos) (xCall m fa) := by
  obtain ⟨f, fd, ps, F, hm, hk, hb⟩ := c.ex
  refine ⟨PEw (pe_call (E := E) F hr hg hm hk hb .nil (fun pins σ H s u s' I q => passes_call tk (fun _ _ _ _ h => h) pins σ H s u s' I q) (SA_nox ha).out hdb he hpl) fun σ H Q h => ?_⟩
  obtain ⟨g, O, env, x, d, x', S, e, k⟩ := h
  unfold xCall at e
  split at e
  · rename_i ds x1 e1
    split at e
    · rename_i d1 e2
      cases e
      refine ⟨g, O, env, x, ds, _, S, e1, fun vs H1 S1 l1 r1 => ?_⟩
      show spX X.K m (vs ++ []) H1 Q E
      rw [List.append_nil]
      exact ⟨g.T, O, ds, d, S1.tk, S1.tb, S1.dom, r1, e2, fun cls d H2 sm r2 => k cls d H2 (S1.sameT sm) (l1.trans (.ofT sm)) r2⟩
    · cases e
  · cases e
/-! ### statements -/
def xNo : FZs := fun _ _ => none
theorem PSnone {st : Stmt} {t : TS} (h : ∀ D σ H, ¬ t D σ H) : PS X st t := ⟨fun pins s σ H Q I z => (h _ _ _ z).elim⟩
theorem rs_no {st : Stmt} : RS X E st xNo := ⟨PSnone fun D σ H ⟨_, _, _, _, _, _, z, _⟩ => by cases z⟩
theorem PSsnone {st : List Stmt} {t : TS} (h : ∀ D σ H, ¬ t D σ H) : PSs X st t := ⟨fun pins s σ H Q I z => (h _ _ _ z).elim⟩
theorem rss_no {st : List Stmt} : RSs X E st xNo := ⟨PSsnone fun D σ H ⟨_, _, _, _, _, _, z, _⟩ => by cases z⟩
def xIf (t : FT) (f h : FZs) : FZs := fun env x => match t env x with
  | some (true, x1) => f env x1
  | some (false, x1) => h env x1
  | none => none
theorem rs_if {t : FT} {p q : List Stmt} {f h : FZs} (ht : ST X.nox c t) (h1 : RSs X E p f) (h2 : RSs X E q h) : RS X E (.If c p q pos) (xIf t f h) := by
  refine ⟨PSw (ps_if (ST_nox ht).out h1.out h2.out) fun Dn σ H h => ?_⟩
  obtain ⟨g, O, env, x, er, S, e, k⟩ := h
  unfold xIf at e
  split at e
  · rename_i x1 e1
    refine ⟨g, O, env, x, _, x1, S, e1, fun H' S' l => ?_⟩
    refine iteT ?_
    exact ⟨g, O, env, x1, er, S', e, k⟩
  · rename_i x1 e1
    refine ⟨g, O, env, x, _, x1, S, e1, fun H' S' l => ?_⟩
    refine iteF ?_
    exact ⟨g, O, env, x1, er, S', e, k⟩
  · cases e
def xSeq (f : FS) (fx gx : FZs) : FZs := fun env x => match fx env x with
  | some er => some er
  | none => match f env x with
    | some (.nx e1, x1) => gx e1 x1
    | _ => none
theorem rss_cons {st : Stmt} {rest : List Stmt} {f : FS} {fx gx : FZs} (h : SS X.nox st f) (h1 : RS X E st fx) (h2 : RSs X E rest gx) : RSs X E (st :: rest) (xSeq f fx gx) := by
  refine ⟨PSsw (pss_cons (PSor (SS_nox h).out h1.out) h2.out) fun Dn σ H h => ?_⟩
  obtain ⟨g, O, env, x, er, S, e, k⟩ := h
  unfold xSeq at e
  split at e
  · rename_i er' q
    cases e
    exact .inr ⟨g, O, env, x, er, S, q, k⟩
  · split at e
    · rename_i e1 x1 q
      exact .inl ⟨g, O, env, x, _, x1, S, q, fun O' σ' H' S' => ⟨g, O', e1, x1, er, S', e, k⟩⟩
    · cases e
/-- a class of the program without an __init__ of its own -/
structure ErrK (K : PySem.W.Frag) (mg : Str → Option Value) (n : Str) : Prop where
  ex : ∃ C : Addr, PySem.W.nsIn K mainGlobals n = some (some (.ref C)) ∧ mg n = some (.ref C) ∧ PySem.W.excIn K C [.type "ValueError", .type "Exception", .type "BaseException", .type "object"] "ValueError.__new__" = true ∧ PySem.W.keepIn K (.ref C) = true ∧
    PySem.W.subIn K (.ref C) (.type "BaseException") = some true ∧ PySem.W.typeIn K (.ref C) = some (.type "type")
def xRaise (c : Str) : FZs := fun _ _ => some ⟨c, []⟩
theorem rs_raise {n m : Str} {j : Nat} {p p2 p3 : Pos} (k : ErrK X.K X.mg n) (hc : X.calm = true) (tk : TakesE X E) (hg : Gl X n) (hdb : (n == ("__debug__" : Str)) = false := by decide) :
    RS X E (.Raise (some (.Call (.Name n p) [.Constant (.str m) j p2] [] pos)) none p3) (xRaise n) := by
  obtain ⟨C, h1, h2, h3, h4, h5, h6⟩ := k.ex
  refine ⟨PSw (ps_raise hc tk (pmk_own PySem.F.excBase_ValueError h3 h2 h4 (raises_own h5 h6) hg hdb)) fun Dn σ H h => ?_⟩
  obtain ⟨g, O, env, x, r, S, e, k⟩ := h
  cases e
  exact k _ _ _ _ _ _ _ S ⟨⟨C, rfl, h1⟩, rfl⟩
end
end RT
namespace RT
open PySem PySem.Spec PyProof.Rows L2
/-! ### a def that may raise -/
def mkX (n k : Nat) (body : FZs) : List D → Option Er := fun ds => if ds.length = k then body (startE n ds) row0 else none
section
variable {P : Program} {ω : World} {K : PySem.W.Frag} {mg : Str → Option Value} {base : Heap}
theorem ok_fnX {x qual : Str} {st : Stmt} {f : Addr} {fd : FuncData} {N ps : List Str} {k : Nat} {body : FZs} (F : Fun K x qual st f fd) (S : FnScope N ps (defScope st))
    (h : ∀ (cdv : Value) (A : Around) (outer : List Env) (s : Shared) (H : Hp) (E : XK), Room k (A.deeper (envOfC qual (defScope st) s.heap.objs.size f cdv)) →
      RSs (cxOf (L2.CX P ω) P ω K mg base N qual (defScope st) f cdv A outer s H E) E (defBody st) body) :
    FnOk P ω K mg base (L2.CX P ω) (k + 1) f fd ps (spX K (mkX N.length ps.length body)) := by
  refine F.okX S (fun vs H Q E h => ?_) (fun cdv A outer s H vs Q E hr hsp => ⟨tXS ω K E body, (h cdv A outer s H E hr).out, ?_⟩)
  · obtain ⟨T, O, ds, d, _, _, _, r, e, _⟩ := h
    unfold mkX at e
    split at e
    · rename_i hl
      rw [r.length, hl]
    · cases e
  · obtain ⟨T, O, ds, d, tk, tb, dom, r, e, q⟩ := hsp
    unfold mkX at e
    split at e
    · rename_i hl
      have S0 : FSt ω K ⟨O, noT H, none, [], T, ω, none⟩ O (L2.start N vs) H (startE N.length ds) row0 := by
        refine ⟨fun _ h => h, fun _ h => .inl h, dom, (fun a o _ e _ => (noT_some e).1), fun r e => (by cases e), ?_, fun i s e h1 h2 => ?_, fun i j d d' a b ne h1 h2 => absurd h1 no_ow, fun i j d d' a b h1 => absurd h1 no_nd, fun i j d d' h1 => absurd h1 no_nd, fun p hp => (by cases hp), tb, tk, fun a o e => (noT_some e).2, rfl⟩
        · unfold L2.start startE
          rw [List.length_append, List.length_append, List.length_map, List.length_map, List.length_replicate, List.length_replicate, r.length]
        · unfold L2.start at h1
          unfold startE at h2
          rw [r.length] at h1
          exact vas_at r i s e h1 h2
      exact ⟨_, O, _, row0, _, S0, e, fun cls dd H' O' σ' env' x' S' er => q cls dd H' ⟨fun a o e t => S'.le a o (fun z => by cases z) (noT_of e t) t, S'.tb⟩ er⟩
    · cases e
end
/-! ### isinstance of what is caught -/
structure ExK (K : PySem.W.Frag) (D : Addr) : Prop where
  cl : (PySem.W.clsIn K D).isSome = true
  ga : PySem.W.findIn K (.ref D) "__getattribute__" = some (some (.builtin "BaseException.__getattribute__"))
  gg : PySem.W.findIn K (.ref D) "__getattr__" = some none
  sb : PySem.W.subIn K (.ref D) (.type "BaseException") = some true
  ca : PySem.W.findIn K (.ref D) "__class__" = some (some (.builtin "object.__class__"))
  sp : PySem.W.specialIn K (.builtin "object.__class__") "__get__" = some (some (.builtin "getset_descriptor.__get__"))
  tk : PySem.W.takesIn K (.builtin "object.__class__") = some true
  mr : PySem.W.mroIn K D (.type "object") = some true
def DctAt (H : Hp) (d : Option Addr) : Prop := d = none ∨ ∃ dd vs, d = some dd ∧ H dd = some (.xd vs)
theorem FldAt.dct {H : Hp} {d : Option Addr} {fs : List (Str × D)} (h : FldAt H d fs) : DctAt H d := by
  cases fs with
  | nil => exact .inl h
  | cons p ps => obtain ⟨dx, vs, e, q, _⟩ := h; exact .inr ⟨dx, vs, e, q⟩
def rIsX (K : PySem.W.Frag) (D a : Addr) (d : Option Addr) : List V → Hp → VK → Prop := fun xs H Q => ∃ (c : V) (cv : Value) (b : Bool), xs = [.ref a, c] ∧ (∀ u, RelV c u → u = cv) ∧ PySem.W.kitOne K (.ref D) cv = some b ∧ DctAt H d ∧ Q (.bl b) H
theorem call_isX {X : Cx} {a D : Addr} {d : Option Addr} {oe : Obj} {pn : List (Addr × Obj)} (C : ExK X.K D) (hz : Zc (.ref D) d oe) (hf : ∃ vs, oe.data = .fields vs) : CallR (X.suite a ((a, oe) :: pn)) (.builtin "isinstance") (rIsX X.K D a d) := by
  intro pins s σ H xs us Q I r h
  obtain ⟨c, cv, b, rfl, hcv, e, dc, q⟩ := h
  cases r with
  | cons rx rr =>
    cases rr with
    | cons rt rr =>
      cases rr
      cases rx
      have ec := hcv _ rt
      subst ec
      obtain ⟨hget, _⟩ := I.pin (a, oe) (List.mem_append.mpr (.inl List.mem_cons_self))
      obtain ⟨vs, hv⟩ := hf
      have J : ∃ od, PySem.W.InstAt s.heap a oe D od := by
        obtain ⟨oc, odd, oda, osl⟩ := oe
        obtain ⟨h1, h2⟩ := hz
        dsimp only at h1 h2 hv
        subst h1 h2 hv
        rcases dc with rfl | ⟨dd, vs, rfl, hx⟩
        · exact ⟨none, hget, rfl, rfl, trivial⟩
        · have hx : ObjOk X.prog X.w H s.heap dd (.xd vs) := I.hok dd _ hx
          obtain ⟨mA, hns, hr⟩ := hx
          obtain ⟨od, ho, hl⟩ := lookIn_ns hns
          exact ⟨some od, hget, rfl, rfl, ho⟩
      obtain ⟨od, J⟩ := J
      exact PySem.W.kia_one (PySem.W.kitx_exc C.cl C.ga C.gg C.sb C.ca C.sp C.tk C.mr) I.kIn J e (fun z => nomatch z) fun tk => ⟨.bl b, H, I.kept (t' := tk) fun _ _ z => z, rfl, q⟩
/-! ### told: try: return work() / except TalkError as e: return None if isinstance(e, NotMade) else "other" -/
def TTA (K : PySem.W.Frag) (CS CN : Addr) (ret : Str) : (XK → Hp → VK → Prop) → Hp → VK → Prop := fun tl H Q =>
  tl (fun cls d H' => ∃ D b, cls = .ref D ∧ ExK K D ∧ PySem.W.exmOne K (.ref D) (.ref CS) = some true ∧ PySem.W.kitOne K (.ref D) (.ref CN) = some b ∧ DctAt H' d ∧ Q (if b = true then .non else .str ret) H') H Q
section
variable {X : Cx}
theorem gives_A {Ng : List Str} {x a e te nm q ret : Str} {sg : Scope} {g CS CN : Addr} {cdg : Value} {j j1 : Nat} {p1 p2 p3 p4 p5 p6 p7 p8 p9 p10 p11 p12 p13 p14 : Pos}
    (hN : Ng.Nodup) (hi : Ng[1]? = some e) (hln : sg.names.lookup e = some .local)
    (hge : sg.names.lookup te = some .globalImplicit) (hme : X.mg te = some (.ref CS)) (hde : (te == ("__debug__" : Str)) = false)
    (hgn : sg.names.lookup nm = some .globalImplicit) (hmn : X.mg nm = some (.ref CN)) (hdn : (nm == ("__debug__" : Str)) = false)
    (hgi : sg.names.lookup ("isinstance" : Str) = some .globalImplicit) (hmi : X.mg "isinstance" = none)
    (hd1 : (e == ("__debug__" : Str)) = false) (hd2 : (e == ("__classdict__" : Str)) = false)
    (h0 : ∀ f : Addr, (L2.start Ng [V.ref f])[0]? = some (some (V.ref f))) :
    LamX.GivesTo X Ng x sg g cdg [.Try [.Return (some (.Call (.Name a p1) [] [] p2)) p3] [.ExceptHandler (some (.Name te p4)) (some e) [.Return (some (.IfExp (.Call (.Name "isinstance" p5) [.Name e p6, .Name nm p7] [] p8) (.Constant .none j1 p9) (.Constant (.str ret) j p10) p11)) p12] p13] [] [] p14] a q (TTA X.K CS CN ret) := by
  intro f c' s H Q tl act hc h
  have hgl : Gl (cxOf C8.CX0 X.prog X.w X.K X.mg X.base Ng x sg g cdg X.A X.stack s H C8.E0).nox te := hge
  refine ⟨_, pss_one (ps_try_as (X := (cxOf C8.CX0 X.prog X.w X.K X.mg X.base Ng x sg g cdg X.A X.stack s H C8.E0).nox) (c := .ref CS) (i := 1)
      (tb := fun W D σ H => ∃ Ech : XK, (∀ cls d σ' H', Ech cls d H' → W cls d σ' H') ∧ σ[0]? = some (some (.ref f)) ∧ H c' = some (LamX.CodeO c' q) ∧ tl Ech H D.rt)
      (ts := fun a cls d Dn σ H => ∃ (D : Addr) (b : Bool) (σ0 : L2.St), cls = .ref D ∧ ExK X.K D ∧ PySem.W.kitOne X.K (.ref D) (.ref CN) = some b ∧ DctAt H d ∧ σ = σ0.set 1 (some (.ref a)) ∧ Dn.rt (if b = true then .non else .str ret) H)
      (Wout := fun _ _ _ _ => False) rfl rfl hN hi hln ⟨hgl, hde, .inl hme⟩ takes0 (fun W pn xe tk _ => ?_) (fun a oe cls d pn hz hf => ?_)), ?_⟩
  · refine ⟨fun pins s' σ H' D I h' => ?_⟩
    obtain ⟨Ech, hW, h1, h2, h3⟩ := h'
    have hp := act W pn xe Ech p1 p2 tk hW
    have hq := pss_one (ps_ret (pos := p3) hp)
    exact hq.run pins s' σ H' D I ⟨h1, h2, h3⟩
  · refine ⟨fun pins s' σ H' D I h' => ?_⟩
    obtain ⟨D, b, σ0, rfl, ek, e1, dc, rfl, q⟩ := h'
    have hl : 1 < σ0.length := by
      have := I.len
      rw [List.length_set] at this
      rw [this]
      exact (List.getElem?_eq_some_iff.mp hi).1
    refine (pss_one (ps_ret (pe_ifExp (pt_val (pe_callB (call_isX (X := (cxOf C8.CX0 X.prog X.w X.K X.mg X.base Ng x sg g cdg X.A X.stack s H C8.E0).nox) (a := a) (oe := oe) (pn := pn) ek hz hf) hgi hmi rfl (pa_cons (pe_var (i := 1) hi (.inl hln) hd1 hd2) (pa_cons (pe_glob (v := .ref CN) hgn hmn rfl hdn) pa_nil)))) pe_non pe_str))).run pins s' _ H' _ I ?_
    refine ⟨.ref a, by rw [List.getElem?_set_self hl], .ref CN, Value.ref CN, b, rfl, fun u r => r, e1, dc, b, rfl, ?_⟩
    cases b with
    | true => exact q
    | false => exact q
  · refine ⟨_, fun cls d σ' H' h => ?_, h0 f, hc, h⟩
    obtain ⟨D, b, rfl, ek, ex, e1, dc, q⟩ := h
    exact ⟨true, ex, fun _ a _ => ⟨D, b, σ', rfl, ek, e1, dc, rfl, q⟩, fun z => nomatch z⟩
end
end RT
namespace RT
open PySem PySem.Spec PyProof.Rows L2
/-- the def that tells how a call ended: TT is what it makes of the lambda's reading -/
structure Teller (K : PySem.W.Frag) (mg : Str → Option Value) (x : Str) (TT : (XK → Hp → VK → Prop) → Hp → VK → Prop) : Prop where
  ex : ∃ (g : Addr) (st : Stmt) (fd : FuncData) (Ng : List Str) (a : Str), Fun K x x st g fd ∧ mg x = some (.ref g) ∧ Binds K fd [a] [] ∧ FnScope Ng [a] (defScope st) ∧ Ng[0]? = some a ∧ Vis (defScope st) a ∧ ((a == ("__debug__" : Str)) = false ∧ (a == ("__classdict__" : Str)) = false) ∧
    ∀ (X : Cx) (cdv : Value) (q : Str), X.K = K → X.mg = mg → LamX.GivesTo X Ng x (defScope st) g cdv (defBody st) a q TT
/-- what is told of an error: by its class's name -/
def heA (L : List (Str × Bool)) (ret : Str) (er : Er) : Option D := match L.lookup er.c with
  | some true => some .none
  | some false => some (.str ret)
  | none => none
def fTold (fn : FE) (fx : FZe) (hn : D → D) (he : Er → Option D) : FE := fun env x => match fn env x with
  | some (d, x1) => some (hn d, x1)
  | none => match fx env x with
    | some (er, x1) => match he er with
      | some d => some (d, x1)
      | none => none
    | none => none
structure ErrA (K : PySem.W.Frag) (CS CN : Addr) (n : Str) (b : Bool) : Prop where
  ex : ∃ C, PySem.W.nsIn K mainGlobals n = some (some (.ref C)) ∧ ExK K C ∧ PySem.W.exmOne K (.ref C) (.ref CS) = some true ∧ PySem.W.kitOne K (.ref C) (.ref CN) = some b
theorem lookup_mem {α : Type} {L : List (Str × α)} {n : Str} {b : α} (h : L.lookup n = some b) : (n, b) ∈ L := by
  induction L with
  | nil => cases h
  | cons p ps ih =>
    obtain ⟨m, c⟩ := p
    rw [List.lookup_cons] at h
    split at h
    · rename_i e
      cases h
      have := eq_of_beq e
      subst this
      exact List.mem_cons_self
    · exact List.mem_cons_of_mem _ (ih h)
section
variable {X : Cx}
theorem se_toldA {k : Nat} {x y : Str} {p lpos pos : Pos} {params : Arguments} {body : Expr} {scope : Scope} {fn : FE} {fx : FZe} {c P CS CN : Addr} {ret : Str} {L : List (Str × Bool)} (T : Teller X.K X.mg x (TTA X.K CS CN ret)) (hL : ∀ p ∈ L, ErrA X.K CS CN p.1 p.2)
    (hr : Room (k + 2) X.A) (hg : Gl X x) (TB : LamX.TabB X.base X.mg c P) (hcode : X.env.code = .ref c) (ht : PySem.W.tabIn X.K y = some (c, P)) (hy : y ∈ makers) (hq : X.env.qual ++ "<lambda>" = lamq y)
    (Ls : LamX.LamS X.env.scope scope) (hdef : defaultsOf params X.env = ([], []))
    (hbind : ∀ (q : Str) (cl : List (Str × Addr)) (pm cv ctv : Value), bindArgs (PySem.W.kla_fn "<lambda>" q params body scope cl pm cv ctv) ⟨[], []⟩ = pure [])
    (hbn : ∀ (A : Around) (outer : List Env) (s : Shared) (H : Hp) (E : XK) (f c' : Addr), Room k (A.deeper (LamX.lamEnv X scope s.heap.objs.size f c')) → SE (LamX.lamCx X A outer s H E scope f c').nox body fn)
    (hbx : ∀ (A : Around) (outer : List Env) (s : Shared) (H : Hp) (E : XK) (f c' : Addr), Room k (A.deeper (LamX.lamEnv X scope s.heap.objs.size f c')) → RE (LamX.lamCx X A outer s H E scope f c') E body fx)
    (hdb : (x == ("__debug__" : Str)) = false := by decide) :
    SE X (.Call (.Name x p) [.Lambda params body scope lpos] [] pos) (fTold fn fx id (heA L ret)) := by
  obtain ⟨gA, st, fd, Ng, a, F, hm, hbi, Sg, hN0, hva, ⟨hd1, hd2⟩, hG⟩ := T.ex
  have hk := F.kp
  obtain ⟨oc, od, kV, doc, pm0, an, cdv, ct, osl, rfl, lk, hcd⟩ := F.ex
  refine ⟨⟨fun pins s σ H Q I h => ?_⟩⟩
  obtain ⟨g, O, env, x0, r, x', S, e0, kk⟩ := h
  obtain ⟨tm, tu⟩ := S.tk y hy c P ht
  refine (LamX.pe_lamcall (T := g.T) (TT := TTA X.K CS CN ret) (t := fun E σ H Q => tE X.w X.K fn σ H Q ∨ tXE X.w X.K E fx σ H Q) hg hm hk lk hcd hbi Sg hN0 hva (hG X cdv _ rfl rfl) TB hcode (by rw [hq]; exact tm) (fun p hp e => by rw [hq]; exact tu p hp e) hr Ls hdef hbind
    (fun A outer s H E f c' hr' => PEor (SE_nox (hbn A outer s H E f c' hr')).out (hbx A outer s H E f c' hr').out) hdb hd1 hd2).run pins s σ H Q I ⟨S.tb, fun H1 eN T1 => ?_⟩
  have S1 := S.step (.ofN eN) T1 fun r hr' => (S.row r hr').2.2.ext eN
  unfold fTold at e0
  split at e0
  · rename_i d x1 e1
    cases e0
    exact .inl ⟨g, O, env, x0, _, _, S1, e1, fun v H' S' l r => kk v H' S' ((Le.ofN eN).trans l) r⟩
  · split at e0
    · rename_i er x1 e2
      split at e0
      · rename_i d e3
        cases e0
        refine .inr ⟨g, O, env, x0, _, _, S1, e2, fun cls d' H' S' l er' => ?_⟩
        have l' := (Le.ofN eN).trans l
        obtain ⟨⟨C, rfl, hC⟩, fl⟩ := er'
        unfold heA at e3
        split at e3
        · rename_i hl
          cases e3
          obtain ⟨C', n1, n2, n3, n4⟩ := (hL _ (lookup_mem hl)).ex
          rw [hC] at n1
          cases n1
          exact ⟨C, true, rfl, n2, n3, n4, fl.dct, kk _ _ S' l' .non⟩
        · rename_i hl
          cases e3
          obtain ⟨C', n1, n2, n3, n4⟩ := (hL _ (lookup_mem hl)).ex
          rw [hC] at n1
          cases n1
          exact ⟨C, false, rfl, n2, n3, n4, fl.dct, kk _ _ S' l' (.str _)⟩
        · cases e3
      · cases e0
    · cases e0
end
end RT
namespace RT
open PySem PySem.Spec PyProof.Rows L2
section
variable {X : Cx} {E : XK}
theorem rss_head {st : Stmt} {rest : List Stmt} {f : FZs} (h1 : RS X E st f) : RSs X E (st :: rest) f := ⟨pss_cons (u := fun _ _ _ => False) h1.out (PSsnone fun _ _ _ z => z)⟩
end
/-! ### the law, with lambdas -/
theorem ok_lawM {P : Program} {w : World} {K : PySem.W.Frag} {mg : Str → Option Value} {base : Heap} {x qual n0 n1 : Str} {st : Stmt} {rest : List Stmt} {f : Addr} {fd : FuncData} {more : List Str} {k : Nat} {b : FS} {seed : Int} {i1 i2 i3 : Nat} {c TT : Addr} {p1 p2 p3 p4 p5 p6 pos : Pos}
    (F : Fun K x qual st f fd) (S : FnScope (n0 :: n1 :: more) [n0] (defScope st)) (hb : defBody st = .Assign [.Name n1 p1] (.List [.Name n0 p2, .Constant (.int 0) i1 p3, .Constant (.int seed) i2 p4, .Constant (.int 0) i3 p5] p6) pos :: rest)
    (ns0 : PySem.W.nsIn K mainGlobals x = some (some (.ref f))) (ti : PySem.W.tabIn K x = some (c, TT))
    (hs : ∀ (A : Around) (outer : List Env) (s : Shared) (H : Hp) (E : XK),
      PS (cxOf CX0 P w K mg base (n0 :: n1 :: more) qual (defScope st) f (.ref c) A outer s H E).nox (.Assign [.Name n1 p1] (.List [.Name n0 p2, .Constant (.int 0) i1 p3, .Constant (.int seed) i2 p4, .Constant (.int 0) i3 p5] p6) pos)
        (tAsg (tLst (tCons (tVar 0) (tCons (tC (.int 0)) (tCons (tC (.int seed)) (tCons (tC (.int 0)) tNil))))) (gName 1)))
    (h : ∀ (A : Around) (outer : List Env) (s : Shared) (H : Hp) (E : XK), Room k (A.deeper (envOfC qual (defScope st) s.heap.objs.size f (.ref c))) → SSs (cxOf CX0 P w K mg base (n0 :: n1 :: more) qual (defScope st) f (.ref c) A outer s H E).nox rest b) :
    FnOk P w K mg base CX0 (k + 1) f fd [n0] (spLaw K b more.length seed) := by
  obtain ⟨oc, od, kV, doc, pm, an, cdv, ct, osl, rfl, lk, hcd⟩ := F.ex
  obtain rfl : cdv = .ref c := tab_code ns0 lk ti
  refine fn_of lk hcd S (fun vs H Q E h => ?_) (fun A outer s H vs Q E hr hsp => ?_)
  · obtain ⟨T, a, ns, x', _, _, rfl, _⟩ := h
    rfl
  · obtain ⟨T, a, ns, x', tk, tb, rfl, ha, e, q⟩ := hsp
    rw [hb]
    refine ⟨_, PSs.nox (pss_cons (hs A outer s H E) (h A outer s H E hr).out), ?_⟩
    refine ⟨_, rfl, maxLen_ok (show 4 ≤ maxLen by decide), fun p hp => ?_⟩
    refine ⟨⟨fun z => z = p, noT (upd H p (.lst [.ref a, .int 0, .int seed, .int 0])), some p, [], T, w, none⟩, fun z => z = p, .no :: .rw :: List.replicate more.length .no, ⟨ns, 0, seed, 0⟩, .rt (.bool true), x', ?_, e, fun O' σ' H' v env' S' r => ?_⟩
    · have hnd : ∀ {i : Nat} {d : OwD}, (FSl.no :: FSl.rw :: List.replicate more.length FSl.no)[i]? ≠ some (.nd d) := fun {i d} z => by
        have z := List.mem_of_getElem? z
        simp at z
      refine ⟨fun _ h => h, fun _ h => .inl h, fun z hz => by rw [hz, upd_same]; exact True.intro, (fun a o _ e _ => (noT_some e).1), fun r hr => ?_, ?_, fun i s e h1 h2 => ?_, fun i j d d' a b ne h1 h2 h3 h4 => ?_, fun i j d d' a b h1 => absurd h1 hnd, fun i j d d' h1 => absurd h1 hnd, (fun r hr => nomatch hr), tb.ext (same_upd hp), tk, fun a o e => (noT_some e).2, rfl⟩
      · have e : p = r := Option.some.inj hr
        subst e
        refine ⟨rfl, (by show noT (upd H p (.lst [V.ref a, V.int 0, V.int seed, V.int 0])) p ≠ none; rw [noT_of upd_same rfl]; exact fun z => nomatch z), a, upd_same, ?_⟩
        rcases ha with (ha | ⟨o, ha⟩) | ha
        · exact .inl ⟨ne_of_none ha hp, .inl (by rw [upd_ne (ne_of_none ha hp)]; exact ha)⟩
        · exact .inl ⟨ne_of_none ha hp, .inr ⟨o, by rw [upd_ne (ne_of_none ha hp)]; exact ha⟩⟩
        · exact .inr (.inr ha)
      · simp [gName, L2.start]
      · cases i with
        | zero =>
          have e2 := Option.some.inj h2
          subst e2
          exact .no _
        | succ i =>
          cases i with
          | zero =>
            have e2 := Option.some.inj h2
            subst e2
            have e1 := Option.some.inj h1
            subst e1
            exact .rw ⟨rfl, rfl⟩
          | succ i =>
            have h2 : (List.replicate more.length FSl.no)[i]? = some e := by simpa using h2
            have := (List.mem_replicate.mp (List.mem_of_getElem? h2)).2
            subst this
            exact .no _
      · have at1 : ∀ {i : Nat} {d : OwD}, (FSl.no :: FSl.rw :: List.replicate more.length FSl.no)[i]? ≠ some (.ow d) := fun {i d} z => by
          have z := List.mem_of_getElem? z
          simp at z
        exact absurd h1 at1
    · cases r
      exact q H'
/-- the facts of an error's class, one for each of the ways in which it is used -/
theorem errK_mk {K : PySem.W.Frag} {mg : Str → Option Value} {n : Str} {C : Addr} (h1 : PySem.W.nsIn K mainGlobals n = some (some (.ref C))) (h2 : mg n = some (.ref C)) (h3 : PySem.W.excIn K C [.type "ValueError", .type "Exception", .type "BaseException", .type "object"] "ValueError.__new__" = true) (h4 : PySem.W.keepIn K (.ref C) = true)
    (h5 : PySem.W.subIn K (.ref C) (.type "BaseException") = some true) (h6 : PySem.W.typeIn K (.ref C) = some (.type "type")) : ErrK K mg n := ⟨C, h1, h2, h3, h4, h5, h6⟩
theorem errA_mk {K : PySem.W.Frag} {n : Str} {b : Bool} {C CS CN : Addr} (h1 : PySem.W.nsIn K mainGlobals n = some (some (.ref C))) (cl : (PySem.W.clsIn K C).isSome = true) (ga : PySem.W.findIn K (.ref C) "__getattribute__" = some (some (.builtin "BaseException.__getattribute__"))) (gg : PySem.W.findIn K (.ref C) "__getattr__" = some none)
    (sb : PySem.W.subIn K (.ref C) (.type "BaseException") = some true) (ca : PySem.W.findIn K (.ref C) "__class__" = some (some (.builtin "object.__class__"))) (sp : PySem.W.specialIn K (.builtin "object.__class__") "__get__" = some (some (.builtin "getset_descriptor.__get__"))) (tk : PySem.W.takesIn K (.builtin "object.__class__") = some true)
    (mr : PySem.W.mroIn K C (.type "object") = some true) (s1 : PySem.W.subIn K (.ref CS) (.type "BaseException") = some true) (s2 : PySem.W.hasDictIn K CS = true) (s3 : PySem.W.typeIn K (.ref CS) = some (.type "type")) (s4 : PySem.W.subIn K (.ref C) (.ref CS) = some true)
    (kt : PySem.W.kitOne K (.ref C) (.ref CN) = some b) : ErrA K CS CN n b := ⟨C, h1, ⟨cl, ga, gg, sb, ca, sp, tk, mr⟩, PySem.W.exm_ref s1 s2 s3 s4, kt⟩
/-- told, as the text has it -/
theorem teller_A {K : PySem.W.Frag} {mg : Str → Option Value} {x a e te nm ret : Str} {st : Stmt} {g CS CN : Addr} {fd : FuncData} {Ng : List Str} {j j1 : Nat} {p1 p2 p3 p4 p5 p6 p7 p8 p9 p10 p11 p12 p13 p14 : Pos} (F : Fun K x x st g fd) (hm : mg x = some (.ref g)) (hb : Binds K fd [a] []) (S : FnScope Ng [a] (defScope st)) (hN0 : Ng[0]? = some a) (hva : Vis (defScope st) a)
    (hbd : defBody st = [.Try [.Return (some (.Call (.Name a p1) [] [] p2)) p3] [.ExceptHandler (some (.Name te p4)) (some e) [.Return (some (.IfExp (.Call (.Name "isinstance" p5) [.Name e p6, .Name nm p7] [] p8) (.Constant .none j1 p9) (.Constant (.str ret) j p10) p11)) p12] p13] [] [] p14])
    (hi : Ng[1]? = some e) (hln : (defScope st).names.lookup e = some .local)
    (hge : (defScope st).names.lookup te = some .globalImplicit) (hme : mg te = some (.ref CS)) (hgn : (defScope st).names.lookup nm = some .globalImplicit) (hmn : mg nm = some (.ref CN))
    (hgi : (defScope st).names.lookup ("isinstance" : Str) = some .globalImplicit) (hmi : mg "isinstance" = none)
    (hda : (a == ("__debug__" : Str)) = false ∧ (a == ("__classdict__" : Str)) = false) (hd : (e == ("__debug__" : Str)) = false ∧ (e == ("__classdict__" : Str)) = false) (hdt : (te == ("__debug__" : Str)) = false) (hdn : (nm == ("__debug__" : Str)) = false) (h0 : ∀ f : Addr, (L2.start Ng [V.ref f])[0]? = some (some (V.ref f))) :
    Teller K mg x (TTA K CS CN ret) :=
  ⟨g, st, fd, Ng, a, F, hm, hb, S, hN0, hva, hda, fun X cdv q hK hmg => by
    subst hK; subst hmg
    rw [hbd]
    exact gives_A S.nd hi hln hge hme hdt hgn hmn hdn hgi hmi hd.1 hd.2 h0⟩
end RT
namespace RT
open PySem PySem.Spec PyProof.Rows L2
end RT
namespace RT
open PySem PySem.Spec PyProof.Rows L2
end RT
namespace RT
open PySem PySem.Spec PyProof.Rows L2
/-! raise C(f"..") -/
end RT
namespace Lw
open PySem PySem.Spec PyProof.Rows L2 RT
def LE : List (Str × Bool) := [(Str.ofString "NotMade", true)]
def b_law_taken : FS :=
    sSeq (sIf (fTst (fBin (gI yes2 fun i j => .bool (decide (j < i))) (fRow 0 3) (fC (.int 0)))) (sSeq (sSet 2 (xVal (fBin gModI (fCall gInt (aCons (fRow 0 3) aNil)) (fBor 1))))
    (sSeq (sRow 0 3 (fBin gDivI (fRow 0 3) (fBor 1)))
    (sRet (fVar 2)))) sNil)
    (sSeq (sRow 0 1 (fBin gAdd (fRow 0 1) (fC (.int 1))))
    (sSeq (sIf (fTst (fBin (gI yes2 fun i j => .bool (decide (j < i))) (fRow 0 1) (fRowLen 0))) (sSeq (sRow 0 2 (fBin gModI (fCall gInt (aCons (fBin gAdd (fBin gMul (fRow 0 2) (fC (.int 48271))) (fC (.int 11))) aNil)) (fC (.int 2147483647))))
    (sRet (fBin gModI (fCall gInt (aCons (fBin gDivI (fRow 0 2) (fC (.int 7))) aNil)) (fBor 1)))) sNil)
    (sSeq (sSet 3 (xVal (fRowAt 0 (fBin gSubI (fRow 0 1) (fC (.int 1))))))
    (sSeq (sRow 0 2 (fBin gModI (fCall gInt (aCons (fBin gAdd (fBin gAdd (fBin gMul (fRow 0 2) (fC (.int 48271))) (fBor 3)) (fC (.int 11))) aNil)) (fC (.int 2147483647))))
    (sSeq (sIf (fTst (fBin (gI yes2 fun i j => .bool (decide (j ≤ i))) (fBor 3) (fBin gPowI (fC (.int 10)) (fC (.int 18))))) (sRow 0 3 (fBin gDivI (fBor 3) (fBor 1))) sNil)
    (sRet (fBin gModI (fCall gInt (aCons (fBor 3) aNil)) (fBor 1))))))))
def m_law_taken : List D → FRow → Option (D × FRow) := mkR 3 1 b_law_taken
def b_law_pick : FS :=
    sRet (fBin gAt (fBor 1) (fCallR 0 m_law_taken (aCons (fCall gLen (aCons (fBor 1) aNil)) aNil)))
def m_law_pick : List D → FRow → Option (D × FRow) := mkR 1 1 b_law_pick
def b_law_state : FS :=
    sSeq (sPars [3, 4] (xsCons (xVal (fCallR 0 m_law_pick (aCons (fLst (aCons (fC (.str (Str.ofString "hear"))) (aCons (fC (.str (Str.ofString "say"))) aNil))) aNil))) (xsCons (xNew (.dt [])) xsNil)))
    (sSeq (sFor (fRg1 (fCallR 0 m_law_taken (aCons (fC (.int 3)) aNil))) (gtName 5) (sSeq (sSet 3 (xVal (fIf (fTru (fBor 2)) (fVar 3) (fCallR 0 m_law_pick (aCons (fLst (aCons (fC (.str (Str.ofString "hear"))) (aCons (fC (.str (Str.ofString "say"))) aNil))) aNil)))))
    (sDPut 4 (fTup (aCons (fVar 3) (aCons (fBin gAdd (fC (.int 1)) (fCallR 0 m_law_taken (aCons (fC (.int 2)) aNil))) (aCons (fCallR 0 m_law_taken (aCons (fC (.int 2)) aNil)) aNil)))) (fCallR 0 m_law_taken (aCons (fVar 1) aNil)))))
    (sSeq (sSet 6 (xVal (fCall gTupOf (aCons (fCall gSortX (aCons (fOfX (xLc (fSeq (fCall gListOf (aCons (fBor 4) aNil))) (gtName 7) tYesF (fBin gAdd (fBor 7) (fTup (aCons (fBin gAt (fBor 4) (fBor 7)) aNil))) [7])) aNil)) aNil))))
    (sSeq (sIf (fTst (fBin gEq (fBor 6) (fTup aNil))) (sRet (fTup (aCons (fOr (fVar 2) (fBin gEq (fCallR 0 m_law_taken (aCons (fC (.int 2)) aNil)) (fC (.int 0)))) (aCons (fVar 6) aNil)))) sNil)
    (sRet (fTup (aCons (fIf (fTru (fBor 2)) (fAnd (fBin gEq (fBor 3) (fC (.str (Str.ofString "hear")))) (fBin gEq (fCallR 0 m_law_taken (aCons (fC (.int 3)) aNil)) (fC (.int 0)))) (fBin gEq (fCallR 0 m_law_taken (aCons (fC (.int 3)) aNil)) (fC (.int 0)))) (aCons (fVar 6) aNil)))))))
def m_law_state : List D → FRow → Option (D × FRow) := mkR 7 2 b_law_state
def b_law_part : FS :=
    sSeq (sSet 3 (xVal (fBin gAdd (fC (.int 1)) (fCallR 0 m_law_taken (aCons (fVar 1) aNil)))))
    (sRet (fCall gTupOf (aCons (fOfX (xLc (fRg1 (fVar 3)) (gtName 4) tYesF (fCallR 0 m_law_state (aCons (fVar 3) (aCons (fVar 2) aNil))) [4])) aNil)))
def m_law_part : List D → FRow → Option (D × FRow) := mkR 4 2 b_law_part
def b_law_branches : FS :=
    sRet (fIf (fTst (fBin gNotN (fBin gAt (fBin gAt (fBor 0) (fC (.int 1))) (fBor 1)) (fC .none))) (fBin gAt (fBin gAt (fBin gAt (fBor 0) (fC (.int 1))) (fBor 1)) (fC (.int 1))) (fTup aNil))
def m_law_branches : List D → Option D := mkF 2 2 b_law_branches
def b_law_event : FS :=
    sSeq (sSet 4 (xVal (fBin gAt (fBin gAt (fBin gAt (fBor 0) (fC (.int 1))) (fBor 1)) (fC (.int 0)))))
    (sSeq (sIf (fTst (fBin gEq (fBor 3) (fBor 4))) (sRet (fTup (aCons (fC (.str (Str.ofString "say"))) (aCons (fBin gAt (fBor 2) (fC (.int 0))) (aCons (fBin gAt (fBor 2) (fC (.int 1))) aNil))))) sNil)
    (sRet (fIf (fTst (fBin gEq (fBor 3) (fBin gAt (fBor 2) (fC (.int 0))))) (fTup (aCons (fC (.str (Str.ofString "hear"))) (aCons (fVar 4) (aCons (fBin gAt (fBor 2) (fC (.int 1))) aNil)))) (fC .none))))
def m_law_event : List D → Option D := mkF 5 4 b_law_event
def b_law_joined : FS :=
    sSeq (sPars [3, 4, 5] (xsCons (xDictP (fOfX (xLc (fSeq (fVar 1)) (gtName 9) tYesF (fTup (aCons (fVar 9) (aCons (fC (.bool true)) aNil))) [9]))) (xsCons (xVal (fCall gListOf (aCons (fBor 1) aNil))) (xsCons (xVal (fC (.int 0))) xsNil))))
    (sSeq (whL (tAndF (fTst (fBin gNe (fBor 4) (fLst aNil))) (fTst (fBin gLtX (fBor 5) (fC (.int 10))))) (sSeq (sPars [5, 6] (xsCons (xVal (fBin gAdd (fBor 5) (fC (.int 1)))) (xsCons (xLst aNil) xsNil)))
    (sSeq (sFor (fSeq (fVar 4)) (gtName 7) (sFor (fSeq (fCall m_law_branches (aCons (fVar 0) (aCons (fVar 7) aNil)))) (gtName 8) (sIf (tAndF (fTst (fBin gIsN (fCall m_law_event (aCons (fVar 0) (aCons (fVar 7) (aCons (fVar 8) (aCons (fVar 2) aNil))))) (fC .none))) (fTst (fBin gNotInA (fBin gAt (fBor 8) (fC (.int 2))) (fBor 3)))) (sSeq (sDPut 3 (fBin gAt (fBor 8) (fC (.int 2))) (fC (.bool true)))
    (sApp 6 (fBin gAt (fBor 8) (fC (.int 2))))) sNil)))
    (sFrz 6 (sSet 4 (xVal (fVar 6)))))) 1000)
    (sRet (fCall gTupOf (aCons (fCall gSortX (aCons (fCall gListOf (aCons (fBor 3) aNil)) aNil)) aNil))))
def m_law_joined : List D → Option D := mkF 10 3 b_law_joined
def b_law_steps : FS :=
    sSeq (sSet 3 (xNew (.dt [])))
    (sSeq (sFor (fSeq (fVar 1)) (gtName 4) (sFor (fSeq (fCall m_law_branches (aCons (fVar 0) (aCons (fVar 4) aNil)))) (gtName 5) (sSeq (sSet 6 (xVal (fCall m_law_event (aCons (fVar 0) (aCons (fVar 4) (aCons (fVar 5) (aCons (fVar 2) aNil)))))))
    (sIf (fTst (fBin gNotN (fBor 6) (fC .none))) (sDPut 3 (fVar 6) (fBin gAdd (fGet2 (fBor 3) (fVar 6) (fLst aNil)) (fLst (aCons (fBin gAt (fBor 5) (fC (.int 2))) aNil)))) sNil))))
    (sRet (fOfX (xLc (fSeq (fCall gSortX (aCons (fCall gListOf (aCons (fBor 3) aNil)) aNil))) (gtName 6) tYesF (fTup (aCons (fVar 6) (aCons (fCall m_law_joined (aCons (fVar 0) (aCons (fBin gAt (fBor 3) (fBor 6)) (aCons (fVar 2) aNil)))) aNil))) [6]))))
def m_law_steps : List D → Option D := mkF 7 3 b_law_steps
def b_law_cut : FS :=
    sSeq (sPars [2, 3, 4] (xsCons (xLst (aCons (fCall m_law_joined (aCons (fVar 0) (aCons (fLst (aCons (fC (.int 0)) aNil)) (aCons (fVar 1) aNil)))) aNil)) (xsCons (xLst aNil) (xsCons (xVal (fC (.int 0))) xsNil))))
    (sSeq (whL (tAndF (fTst (fBin gLtX (fCall gLen (aCons (fBor 3) aNil)) (fCall gLen (aCons (fBor 2) aNil)))) (fTst (fBin gLtX (fBor 4) (fC (.int 70))))) (sSeq (sPars [4, 5] (xsCons (xVal (fBin gAdd (fBor 4) (fC (.int 1)))) (xsCons (xLst aNil) xsNil)))
    (sSeq (sSet 6 (xVal (fCall m_law_steps (aCons (fVar 0) (aCons (fBin gAt (fBor 2) (fCall gLen (aCons (fBor 3) aNil))) (aCons (fVar 1) aNil))))))
    (sSeq (sFor (fSeq (fVar 6)) (gtTup 2 (gtCons (gtName 7) (gtCons (gtName 8) gtNil))) (sSeq (sIf (fTst (fBin gNotInA (fBor 8) (fBor 2))) (sApp 2 (fVar 8)) sNil)
    (sApp 5 (fBin gAdd (fBor 7) (fTup (aCons (fIndex (fBor 2) (fBor 8)) aNil))))))
    (sSeq (sSet 9 ((fun f => xVal (fOfX f)) (xLc (fSeq (fBin gAt (fBor 2) (fCall gLen (aCons (fBor 3) aNil)))) (gtName 10) (fTst (fBin gIsN (fBin gAt (fBin gAt (fBor 0) (fC (.int 1))) (fBor 10)) (fC .none))) (fVar 10) [10])))
    (sApp 3 (fTup (aCons (fOr (fBin gNe (fBor 9) (fLst aNil)) (fBin gEq (fBor 5) (fLst aNil))) (aCons (fCall gTupOf (aCons (fBor 5) aNil)) aNil)))))))) 1000)
    (sFrz 2 (sRet (fTup (aCons (fVar 2) (aCons (fCall gTupOf (aCons (fBor 3) aNil)) aNil))))))
def m_law_cut : List D → Option D := mkF 11 2 b_law_cut
def b_law_cast : FS :=
    sRet (fCall gTupOf (aCons (fOfX (xLc (fRg1 (fBin gAt (fBor 0) (fC (.int 0)))) (gtName 1) tYesF (fBin gAt (fCall m_law_cut (aCons (fVar 0) (aCons (fVar 1) aNil))) (fC (.int 1))) [1])) aNil))
def m_law_cast : List D → Option D := mkF 2 1 b_law_cast
def b_law_alike (rec : List D → Option D) : FS :=
    sSeq (sIf (fTru (fIsi2 .tuple .list (fBor 1))) (sSeq (sIf (tOrF (tNotF (fTru (fIsi2 .tuple .list (fBor 0)))) (fTst (fBin gNe (fIsi .list (fBor 0)) (fIsi .list (fBor 1))))) (sRet (fC (.bool false))) sNil)
    (sSeq (sIf (fTst (fBin gNe (fCall gLen (aCons (fBor 0) aNil)) (fCall gLen (aCons (fBor 1) aNil)))) (sRet (fC (.bool false))) sNil)
    (sRet (fBin gEq (fOfX (xLc (fRg1 (fCall gLen (aCons (fBor 1) aNil))) (gtName 2) (tNotF (fTru (fCall rec (aCons (fBin gAt (fBor 0) (fBor 2)) (aCons (fBin gAt (fBor 1) (fBor 2)) aNil))))) (fVar 2) [2])) (fLst aNil))))) sNil)
    (sSeq (sIf (tOrF (fTst (fBin gIsN (fBor 1) (fC .none))) (fTru (fIsi .str (fBor 1)))) (sRet (fAnd (fBin gEq (fBor 0) (fBor 1)) (fBin gEq (fIsi .str (fBor 0)) (fIsi .str (fBor 1))))) sNil)
    (sRet (fAnd (fIsi .int (fBor 0)) (fAnd (fBin gEq (fIsi .bool (fBor 0)) (fIsi .bool (fBor 1))) (fBin gEq (fBor 0) (fBor 1))))))
def m_law_alike : Nat → List D → Option D
  | 0 => fun _ => none
  | k + 1 => mkF 3 2 (b_law_alike (m_law_alike k))
def b_law_scene : FS :=
    sSeq (sPars [5, 6] (xsCons (xVal (fCallR 0 m_law_taken (aCons (fVar 1) aNil))) (xsCons (xNew (.dt [])) xsNil)))
    (sSeq (sFor (fRg1 (fBin gAdd (fC (.int 1)) (fCallR 0 m_law_taken (aCons (fC (.int 2)) aNil)))) (gtName 7) (sSeq (sSet 8 (xVal (fBin gModI (fCall gInt (aCons (fBin gAdd (fBin gAdd (fBor 5) (fC (.int 1))) (fCallR 0 m_law_taken (aCons (fBin gSubI (fBor 1) (fC (.int 1))) aNil))) aNil)) (fBor 1))))
    (sSeq (sSet 9 (xVal (fIf (fTru (fBor 4)) (fCallR 0 m_law_taken (aCons (fBin gAdd (fBor 3) (fC (.int 1))) aNil)) (fBin gAdd (fBin gAdd (fBor 2) (fC (.int 1))) (fCallR 0 m_law_taken (aCons (fBin gSubI (fBor 3) (fBor 2)) aNil))))))
    (sDPut 6 (fTup (aCons (fVar 8) (aCons (fCallR 0 m_law_taken (aCons (fC (.int 2)) aNil)) aNil))) (fVar 9)))))
    (sRet (fTup (aCons (fVar 5) (aCons (fCall gTupOf (aCons (fCall gSortX (aCons (fOfX (xLc (fSeq (fCall gListOf (aCons (fBor 6) aNil))) (gtName 10) tYesF (fBin gAdd (fBor 10) (fTup (aCons (fBin gAt (fBor 6) (fBor 10)) aNil))) [10])) aNil)) aNil)) aNil)))))
def m_law_scene : List D → FRow → Option (D × FRow) := mkR 10 4 b_law_scene
def b_law_script : FS :=
    sSeq (sSet 4 (xVal (fBin gAdd (fC (.int 1)) (fCallR 0 m_law_taken (aCons (fVar 2) aNil)))))
    (sRet (fTup (aCons (fVar 1) (aCons (fBin gAdd (fCall gTupOf (aCons (fOfX (xLc (fRg1 (fVar 4)) (gtName 5) tYesF (fCallR 0 m_law_scene (aCons (fVar 1) (aCons (fVar 5) (aCons (fVar 4) (aCons (fVar 3) aNil))))) [5])) aNil)) (fTup (aCons (fC .none) aNil))) aNil))))
def m_law_script : List D → FRow → Option (D × FRow) := mkR 5 3 b_law_script
def b_has_items : FS :=
    sRet (fAnd (fIsi .tuple (fBor 0)) (fChain (gI yes2 fun i j => .bool (decide (i ≤ j))) (gI yes2 fun i j => .bool (decide (i ≤ j))) (fBor 1) (fCall gLen (aCons (fBor 0) aNil)) (fBor 2)))
def m_has_items : List D → Option D := mkF 3 3 b_has_items
def b_is_rising : FS :=
    sRet (fCall gAll (aCons (fOfX (xLc (fRg1 (fBin gSubI (fCall gLen (aCons (fBor 0) aNil)) (fC (.int 1)))) (gtName 1) tYesF (fBin gLtX (fBin gAt (fBor 0) (fBor 1)) (fBin gAt (fBor 0) (fBin gAdd (fBor 1) (fC (.int 1))))) [1])) aNil))
def m_is_rising : List D → Option D := mkF 2 1 b_is_rising
def b_is_number : FS :=
    sRet (fAnd (fIsi .int (fBor 0)) (fAnd (fNot (fIsi .bool (fBor 0))) (fChain (gI yes2 fun i j => .bool (decide (i ≤ j))) (gI yes2 fun i j => .bool (decide (i ≤ j))) (fBor 1) (fBor 0) (fBor 2))))
def m_is_number : List D → Option D := mkF 3 3 b_is_number
def b_is_event : FS :=
    sSeq (sIf (tNotF (fTru (fCall m_has_items (aCons (fVar 0) (aCons (fC (.int 3)) (aCons (fC (.int 3)) aNil)))))) (sRet (fC (.bool false))) sNil)
    (sSeq (sUnp (fVar 0) (gtTup 3 (gtCons (gtName 1) (gtCons (gtName 2) (gtCons (gtName 3) gtNil)))))
    (sRet (fAnd (fInS [Str.ofString "hear", Str.ofString "say"] (fBor 1)) (fAnd (fCall m_is_number (aCons (fVar 2) (aCons (fC (.int 0)) (aCons (fC (.int 3)) aNil)))) (fCall m_is_number (aCons (fVar 3) (aCons (fC (.int 0)) (aCons (fC (.int 5)) aNil))))))))
def m_is_event : List D → Option D := mkF 4 1 b_is_event
def b_is_step : FS :=
    sRet (fAnd (fCall m_has_items (aCons (fVar 0) (aCons (fC (.int 4)) (aCons (fC (.int 4)) aNil)))) (fAnd (fCall m_is_event (aCons (fSl (fBor 0) oNone (oSome (fC (.int 3)))) aNil)) (fCall m_is_number (aCons (fBin gAt (fBor 0) (fC (.int 3))) (aCons (fC (.int 0)) (aCons (fBin gSubI (fBor 1) (fC (.int 1))) aNil))))))
def m_is_step : List D → Option D := mkF 2 2 b_is_step
def b_is_state : FS :=
    sSeq (sIf (tNotF (fTru (fCall m_has_items (aCons (fVar 0) (aCons (fC (.int 2)) (aCons (fC (.int 2)) aNil)))))) (sRet (fC (.bool false))) sNil)
    (sSeq (sUnp (fVar 0) (gtTup 2 (gtCons (gtName 2) (gtCons (gtName 3) gtNil))))
    (sSeq (sIf (tOrF (tNotF (fTru (fIsi .bool (fBor 2)))) (tNotF (fTru (fIsi .tuple (fBor 3))))) (sRet (fC (.bool false))) sNil)
    (sSeq (sIf (tNotF (fTru (fCall gAll (aCons (fOfX (xLc (fSeq (fVar 3)) (gtName 4) tYesF (fCall m_is_step (aCons (fVar 4) (aCons (fVar 1) aNil))) [4])) aNil)))) (sRet (fC (.bool false))) sNil)
    (sRet (fCall m_is_rising (aCons (fOfX (xLc (fSeq (fVar 3)) (gtName 4) tYesF (fSl (fBor 4) oNone (oSome (fC (.int 3)))) [4])) aNil))))))
def m_is_state : List D → Option D := mkF 5 2 b_is_state
def b_is_part : FS :=
    sRet (fAnd (fCall m_has_items (aCons (fVar 0) (aCons (fC (.int 1)) (aCons (fC (.int 255)) aNil)))) (fCall gAll (aCons (fOfX (xLc (fSeq (fVar 0)) (gtName 1) tYesF (fCall m_is_state (aCons (fVar 1) (aCons (fCall gLen (aCons (fBor 0) aNil)) aNil))) [1])) aNil)))
def m_is_part : List D → Option D := mkF 2 1 b_is_part
def b_is_other : FS :=
    sRet (fAnd (fCall m_is_number (aCons (fVar 0) (aCons (fC (.int 0)) (aCons (fBin gSubI (fBor 2) (fC (.int 1))) aNil)))) (fBin gNe (fBor 0) (fBor 1)))
def m_is_other : List D → Option D := mkF 3 3 b_is_other
def b_is_part_of : FS :=
    sRet (fAnd (fCall m_is_part (aCons (fVar 0) aNil)) (fCall gAll (aCons (fOfX (xLc2 (fSeq (fVar 0)) (gtTup 2 (gtCons (gtName 3) (gtCons (gtName 4) gtNil))) tYesF (fSeq (fVar 4)) (gtName 5) tYesF (fCall m_is_other (aCons (fBin gAt (fBor 5) (fC (.int 1))) (aCons (fVar 1) (aCons (fVar 2) aNil)))) [3, 4, 5] [5])) aNil)))
def m_is_part_of : List D → Option D := mkF 6 3 b_is_part_of
def b_check_cast : FS :=
    sSeq (sIf (tNotF (fTru (fCall m_has_items (aCons (fVar 0) (aCons (fC (.int 2)) (aCons (fC (.int 4)) aNil)))))) sNo sNil)
    (sFor (fEn (fVar 0)) (gtTup 2 (gtCons (gtName 1) (gtCons (gtName 2) gtNil))) (sIf (tNotF (fTru (fCall m_is_part_of (aCons (fVar 2) (aCons (fVar 1) (aCons (fCall gLen (aCons (fBor 0) aNil)) aNil)))))) sNo sNil))
def m_check_cast : List D → Option D := mkF 3 1 b_check_cast
def b_check_actor : FS :=
    sIf (tNotF (fTru (fCall m_is_number (aCons (fVar 0) (aCons (fC (.int 0)) (aCons (fBin gSubI (fBor 1) (fC (.int 1))) aNil)))))) sNo sNil
def m_check_actor : List D → Option D := mkF 2 2 b_check_actor
def b_check_part : FS :=
    sSeq (sIf (tNotF (fTru (fCall m_has_items (aCons (fVar 0) (aCons (fC (.int 1)) (aCons (fC (.int 255)) aNil)))))) sNo sNil)
    (sFor (fEn (fVar 0)) (gtTup 2 (gtCons (gtName 1) (gtCons (gtName 2) gtNil))) (sIf (tNotF (fTru (fCall m_is_state (aCons (fVar 2) (aCons (fCall gLen (aCons (fBor 0) aNil)) aNil))))) sNo sNil))
def m_check_part : List D → Option D := mkF 3 1 b_check_part
def b_replaced : FS :=
    sRet (fBin gAdd (fBin gAdd (fSl (fBor 0) oNone (oSome (fVar 1))) (fTup (aCons (fVar 2) aNil))) (fSl (fBor 0) (oSome (fBin gAdd (fBor 1) (fC (.int 1)))) oNone))
def m_replaced : List D → Option D := mkF 3 3 b_replaced
def b_with_part : FS :=
    sSeq (sDrop (fCall m_check_cast (aCons (fVar 0) aNil)))
    (sSeq (sDrop (fCall m_check_actor (aCons (fVar 1) (aCons (fCall gLen (aCons (fBor 0) aNil)) aNil))))
    (sSeq (sDrop (fCall m_check_part (aCons (fVar 2) aNil)))
    (sRet (fCall m_replaced (aCons (fVar 0) (aCons (fVar 1) (aCons (fVar 2) aNil)))))))
def m_with_part : List D → Option D := mkF 3 3 b_with_part
def b_check_number : FS :=
    sIf (tNotF (fTru (fCall m_is_number (aCons (fVar 0) (aCons (fVar 1) (aCons (fVar 2) aNil)))))) sNo sNil
def m_check_number : List D → Option D := mkF 3 3 b_check_number
def b_check_state_of : FS :=
    sSeq (sDrop (fCall m_check_part (aCons (fVar 0) aNil)))
    (sDrop (fCall m_check_number (aCons (fVar 1) (aCons (fC (.int 0)) (aCons (fBin gSubI (fCall gLen (aCons (fBor 0) aNil)) (fC (.int 1))) aNil)))))
def m_check_state_of : List D → Option D := mkF 2 2 b_check_state_of
def b_check_event : FS :=
    sIf (tNotF (fTru (fCall m_is_event (aCons (fVar 0) aNil)))) sNo sNil
def m_check_event : List D → Option D := mkF 1 1 b_check_event
def b_behind_events : FS :=
    sSeq (sUnp (fVar 0) (gtTup 2 (gtCons (gtName 1) (gtCons (gtName 2) gtNil))))
    (sRet (fOfX (xDcT (fSeq (fVar 2)) (gtName 3) tYesF (fSl (fBor 3) oNone (oSome (fC (.int 3)))) (fBin gAt (fBor 3) (fC (.int 3))) [3])))
def m_behind_events : List D → Option D := mkF 4 1 b_behind_events
def bx_without_event : FZs :=
    xSeq (sDrop (fCall m_check_state_of (aCons (fVar 0) (aCons (fVar 1) aNil)))) xNo
    (xSeq (sDrop (fCall m_check_event (aCons (fVar 2) aNil))) xNo
    (xSeq (sUnp (fBin gAt (fBor 0) (fBor 1)) (gtTup 2 (gtCons (gtName 3) (gtCons (gtName 4) gtNil)))) xNo
    (xIf (fTst (fBin gNotInA (fBor 2) (fCall m_behind_events (aCons (fBin gAt (fBor 0) (fBor 1)) aNil)))) (xRaise (Str.ofString "NotMade")) xNo)))
def mx_without_event : List D → Option Er := mkX 6 3 bx_without_event
def b_without_event : FS :=
    sSeq (sDrop (fCall m_check_state_of (aCons (fVar 0) (aCons (fVar 1) aNil))))
    (sSeq (sDrop (fCall m_check_event (aCons (fVar 2) aNil)))
    (sSeq (sUnp (fBin gAt (fBor 0) (fBor 1)) (gtTup 2 (gtCons (gtName 3) (gtCons (gtName 4) gtNil))))
    (sSeq (sIf (fTst (fBin gNotInA (fBor 2) (fCall m_behind_events (aCons (fBin gAt (fBor 0) (fBor 1)) aNil)))) sNo sNil)
    (sRet (fCall m_replaced (aCons (fVar 0) (aCons (fVar 1) (aCons (fTup (aCons (fVar 3) (aCons (fCall gTupOf (aCons (fOfX (xLc (fSeq (fVar 4)) (gtName 5) (fTst (fBin gNe (fSl (fBor 5) oNone (oSome (fC (.int 3)))) (fBor 2))) (fVar 5) [5])) aNil)) aNil))) aNil))))))))
def m_without_event : List D → Option D := mkF 6 3 b_without_event
def b_resting : FS :=
    sSeq (sDrop (fCall m_check_state_of (aCons (fVar 0) (aCons (fVar 1) aNil))))
    (sSeq (sIf (tNotF (fTru (fIsi .bool (fBor 2)))) sNo sNil)
    (sSeq (sUnp (fBin gAt (fBor 0) (fBor 1)) (gtTup 2 (gtCons (gtName 3) (gtCons (gtName 4) gtNil))))
    (sRet (fCall m_replaced (aCons (fVar 0) (aCons (fVar 1) (aCons (fTup (aCons (fVar 2) (aCons (fVar 4) aNil))) aNil)))))))
def m_resting : List D → Option D := mkF 5 3 b_resting
def bx_plus_event : FZs :=
    xSeq (sDrop (fCall m_check_state_of (aCons (fVar 0) (aCons (fVar 1) aNil)))) xNo
    (xSeq (sDrop (fCall m_check_event (aCons (fVar 2) aNil))) xNo
    (xSeq (sDrop (fCall m_check_number (aCons (fVar 3) (aCons (fC (.int 0)) (aCons (fBin gSubI (fCall gLen (aCons (fBor 0) aNil)) (fC (.int 1))) aNil))))) xNo
    (xSeq (sUnp (fBin gAt (fBor 0) (fBor 1)) (gtTup 2 (gtCons (gtName 4) (gtCons (gtName 5) gtNil)))) xNo
    (xIf (fTst (fBin gInA (fBor 2) (fCall m_behind_events (aCons (fBin gAt (fBor 0) (fBor 1)) aNil)))) (xRaise (Str.ofString "NotMade")) xNo))))
def mx_plus_event : List D → Option Er := mkX 6 4 bx_plus_event
def b_plus_event : FS :=
    sSeq (sDrop (fCall m_check_state_of (aCons (fVar 0) (aCons (fVar 1) aNil))))
    (sSeq (sDrop (fCall m_check_event (aCons (fVar 2) aNil)))
    (sSeq (sDrop (fCall m_check_number (aCons (fVar 3) (aCons (fC (.int 0)) (aCons (fBin gSubI (fCall gLen (aCons (fBor 0) aNil)) (fC (.int 1))) aNil)))))
    (sSeq (sUnp (fBin gAt (fBor 0) (fBor 1)) (gtTup 2 (gtCons (gtName 4) (gtCons (gtName 5) gtNil))))
    (sSeq (sIf (fTst (fBin gInA (fBor 2) (fCall m_behind_events (aCons (fBin gAt (fBor 0) (fBor 1)) aNil)))) sNo sNil)
    (sRet (fCall m_replaced (aCons (fVar 0) (aCons (fVar 1) (aCons (fTup (aCons (fVar 4) (aCons (fCall gTupOf (aCons (fCall gSortV (aCons (fBin gAdd (fBor 5) (fTup (aCons (fBin gAdd (fBor 2) (fTup (aCons (fVar 3) aNil))) aNil))) aNil)) aNil)) aNil))) aNil)))))))))
def m_plus_event : List D → Option D := mkF 6 4 b_plus_event
def b_law : FS :=
    sSeq (sSet 11 (xVal (fCallR 1 m_law_part (aCons (fC (.int 5)) (aCons (fC (.bool false)) aNil)))))
    (sSeq (sPars [12, 13] (xsCons (xVal (fCallR 1 m_law_taken (aCons (fCall gLen (aCons (fBor 11) aNil)) aNil))) (xsCons (xVal (fCallR 1 m_law_taken (aCons (fCall gLen (aCons (fBor 11) aNil)) aNil))) xsNil)))
    (sSeq (sSet 10 (xVal (fTup (aCons (fCallR 1 m_law_pick (aCons (fLst (aCons (fC (.str (Str.ofString "hear"))) (aCons (fC (.str (Str.ofString "say"))) aNil))) aNil)) (aCons (fBin gAdd (fC (.int 1)) (fCallR 1 m_law_taken (aCons (fC (.int 2)) aNil))) (aCons (fCallR 1 m_law_taken (aCons (fC (.int 2)) aNil)) aNil))))))
    (sSeq (sUnp (fBin gAt (fBor 11) (fBor 12)) (gtTup 2 (gtCons (gtName 2) (gtCons (gtName 3) gtNil))))
    (sSeq (sSet 4 (xVal (fBin gInA (fBor 10) (fOfX (xLc (fSeq (fVar 3)) (gtName 14) tYesF (fSl (fBor 14) oNone (oSome (fC (.int 3)))) [14])))))
    (sSeq (sSet 5 (xVal (fBin gAdd (fBin gAdd (fSl (fBor 11) oNone (oSome (fVar 12))) (fTup (aCons (fTup (aCons (fVar 2) (aCons (fCall gTupOf (aCons (fOfX (xLc (fSeq (fVar 3)) (gtName 14) (fTst (fBin gNe (fSl (fBor 14) oNone (oSome (fC (.int 3)))) (fBor 10))) (fVar 14) [14])) aNil)) aNil))) aNil))) (fSl (fBor 11) (oSome (fBin gAdd (fBor 12) (fC (.int 1)))) oNone))))
    (sSeq (sIf (tNotF (fTru (fCall (m_law_alike 9) (aCons (fTold (fCall m_without_event (aCons (fVar 11) (aCons (fVar 12) (aCons (fVar 10) aNil)))) (xCall mx_without_event (aCons (fVar 11) (aCons (fVar 12) (aCons (fVar 10) aNil)))) id (heA LE (Str.ofString "other"))) (aCons (fIf (fTru (fBor 4)) (fVar 5) (fC .none)) aNil))))) (sRet (fC (.bool false))) sNil)
    (sSeq (sSet 6 (xVal (fBin gAdd (fBin gAdd (fSl (fBor 11) oNone (oSome (fVar 12))) (fTup (aCons (fTup (aCons (fVar 2) (aCons (fCall gTupOf (aCons (fCall gSortV (aCons (fBin gAdd (fBor 3) (fTup (aCons (fBin gAdd (fBor 10) (fTup (aCons (fVar 13) aNil))) aNil))) aNil)) aNil)) aNil))) aNil))) (fSl (fBor 11) (oSome (fBin gAdd (fBor 12) (fC (.int 1)))) oNone))))
    (sSeq (sIf (tNotF (fTru (fCall (m_law_alike 9) (aCons (fTold (fCall m_plus_event (aCons (fVar 11) (aCons (fVar 12) (aCons (fVar 10) (aCons (fVar 13) aNil))))) (xCall mx_plus_event (aCons (fVar 11) (aCons (fVar 12) (aCons (fVar 10) (aCons (fVar 13) aNil))))) id (heA LE (Str.ofString "other"))) (aCons (fIf (fTru (fBor 4)) (fC .none) (fVar 6)) aNil))))) (sRet (fC (.bool false))) sNil)
    (sSeq (sFor (fSeq (fLst (aCons (fC (.bool true)) (aCons (fC (.bool false)) aNil)))) (gtName 7) (sIf (tNotF (fTru (fCall (m_law_alike 9) (aCons (fCall m_resting (aCons (fVar 11) (aCons (fVar 12) (aCons (fVar 7) aNil)))) (aCons (fBin gAdd (fBin gAdd (fSl (fBor 11) oNone (oSome (fVar 12))) (fTup (aCons (fTup (aCons (fVar 7) (aCons (fVar 3) aNil))) aNil))) (fSl (fBor 11) (oSome (fBin gAdd (fBor 12) (fC (.int 1)))) oNone)) aNil))))) (sRet (fC (.bool false))) sNil))
    (sSeq (sIf (tAndF (tNotF (fTru (fBor 4))) (fTst (fBin gNe (fCall m_without_event (aCons (fCall m_plus_event (aCons (fVar 11) (aCons (fVar 12) (aCons (fVar 10) (aCons (fVar 13) aNil))))) (aCons (fVar 12) (aCons (fVar 10) aNil)))) (fBor 11)))) (sRet (fC (.bool false))) sNil)
    (sSeq (sSet 8 (xVal (fCall m_law_cast (aCons (fCallR 1 m_law_script (aCons (fBin gAdd (fC (.int 2)) (fCallR 1 m_law_taken (aCons (fC (.int 3)) aNil))) (aCons (fC (.int 3)) (aCons (fC (.bool true)) aNil)))) aNil))))
    (sSeq (sSet 9 (xVal (fCallR 1 m_law_taken (aCons (fCall gLen (aCons (fBor 8) aNil)) aNil))))
    (sRet (fCall (m_law_alike 9) (aCons (fCall m_with_part (aCons (fVar 8) (aCons (fVar 9) (aCons (fVar 11) aNil)))) (aCons (fBin gAdd (fBin gAdd (fSl (fBor 8) oNone (oSome (fVar 9))) (fTup (aCons (fVar 11) aNil))) (fSl (fBor 8) (oSome (fBin gAdd (fBor 9) (fC (.int 1)))) oNone)) aNil))))))))))))))))
end Lw
namespace Lw
open PySem PySem.Spec PyProof.Rows L2 RT
def topS (i : Nat) : Stmt := PySem.Challenge.pw_roletalks_k21_whole_part_changes.main.body.getD i (.Pass ⟨0, 0, 0, 0⟩)
theorem v_all : bootBuiltins "all" = some (.builtin "all") := by decide +kernel
theorem v_bool : bootBuiltins "bool" = some (.type "bool") := by decide +kernel
theorem v_int : bootBuiltins "int" = some (.type "int") := by decide +kernel
theorem v_len : bootBuiltins "len" = some (.builtin "len") := by decide +kernel
theorem v_list : bootBuiltins "list" = some (.type "list") := by decide +kernel
theorem v_sorted : bootBuiltins "sorted" = some (.builtin "sorted") := by decide +kernel
theorem v_str : bootBuiltins "str" = some (.type "str") := by decide +kernel
theorem v_tuple : bootBuiltins "tuple" = some (.type "tuple") := by decide +kernel
abbrev s_law_taken : Stmt := topS 40
abbrev N_law_taken : List Str := ["row", "many", "found", "cell"]
theorem sc_law_taken : FnScope N_law_taken ["row", "many"] (defScope s_law_taken) := ⟨rfl, rfl, rfl, by decide +kernel, rfl, by decide +kernel, by decide +kernel⟩
abbrev s_law_pick : Stmt := topS 41
abbrev N_law_pick : List Str := ["row", "kinds"]
theorem sc_law_pick : FnScope N_law_pick ["row", "kinds"] (defScope s_law_pick) := ⟨rfl, rfl, rfl, by decide +kernel, rfl, by decide +kernel, by decide +kernel⟩
abbrev s_law_state : Stmt := topS 51
abbrev N_law_state : List Str := ["row", "size", "plain", "kind", "heads", "turn", "steps", "head"]
theorem sc_law_state : FnScope N_law_state ["row", "size", "plain"] (defScope s_law_state) := ⟨rfl, rfl, rfl, by decide +kernel, rfl, by decide +kernel, by decide +kernel⟩
abbrev s_law_part : Stmt := topS 52
abbrev N_law_part : List Str := ["row", "most", "plain", "size", "at"]
theorem sc_law_part : FnScope N_law_part ["row", "most", "plain"] (defScope s_law_part) := ⟨rfl, rfl, rfl, by decide +kernel, rfl, by decide +kernel, by decide +kernel⟩
abbrev s_law_branches : Stmt := topS 46
abbrev N_law_branches : List Str := ["script", "scene"]
theorem sc_law_branches : FnScope N_law_branches ["script", "scene"] (defScope s_law_branches) := ⟨rfl, rfl, rfl, by decide +kernel, rfl, by decide +kernel, by decide +kernel⟩
abbrev s_law_event : Stmt := topS 45
abbrev N_law_event : List Str := ["script", "scene", "branch", "actor", "speaker"]
theorem sc_law_event : FnScope N_law_event ["script", "scene", "branch", "actor"] (defScope s_law_event) := ⟨rfl, rfl, rfl, by decide +kernel, rfl, by decide +kernel, by decide +kernel⟩
abbrev s_law_joined : Stmt := topS 47
abbrev N_law_joined : List Str := ["script", "scenes", "actor", "known", "last", "count", "fresh", "here", "branch", "scene"]
theorem sc_law_joined : FnScope N_law_joined ["script", "scenes", "actor"] (defScope s_law_joined) := ⟨rfl, rfl, rfl, by decide +kernel, rfl, by decide +kernel, by decide +kernel⟩
abbrev s_law_steps : Stmt := topS 48
abbrev N_law_steps : List Str := ["script", "scenes", "actor", "after", "scene", "branch", "event"]
theorem sc_law_steps : FnScope N_law_steps ["script", "scenes", "actor"] (defScope s_law_steps) := ⟨rfl, rfl, rfl, by decide +kernel, rfl, by decide +kernel, by decide +kernel⟩
abbrev s_law_cut : Stmt := topS 49
abbrev N_law_cut : List Str := ["script", "actor", "some", "told", "count", "line", "steps", "event", "spot", "shut", "scene"]
theorem sc_law_cut : FnScope N_law_cut ["script", "actor"] (defScope s_law_cut) := ⟨rfl, rfl, rfl, by decide +kernel, rfl, by decide +kernel, by decide +kernel⟩
abbrev s_law_cast : Stmt := topS 50
abbrev N_law_cast : List Str := ["script", "actor"]
theorem sc_law_cast : FnScope N_law_cast ["script"] (defScope s_law_cast) := ⟨rfl, rfl, rfl, by decide +kernel, rfl, by decide +kernel, by decide +kernel⟩
abbrev s_law_alike : Stmt := topS 42
abbrev N_law_alike : List Str := ["found", "due", "k"]
theorem sc_law_alike : FnScope N_law_alike ["found", "due"] (defScope s_law_alike) := ⟨rfl, rfl, rfl, by decide +kernel, rfl, by decide +kernel, by decide +kernel⟩
abbrev s_law_scene : Stmt := topS 43
abbrev N_law_scene : List Str := ["row", "actors", "at", "size", "loops", "speaker", "heads", "turn", "hearer", "spot", "head"]
theorem sc_law_scene : FnScope N_law_scene ["row", "actors", "at", "size", "loops"] (defScope s_law_scene) := ⟨rfl, rfl, rfl, by decide +kernel, rfl, by decide +kernel, by decide +kernel⟩
abbrev s_law_script : Stmt := topS 44
abbrev N_law_script : List Str := ["row", "actors", "most", "loops", "size", "at"]
theorem sc_law_script : FnScope N_law_script ["row", "actors", "most", "loops"] (defScope s_law_script) := ⟨rfl, rfl, rfl, by decide +kernel, rfl, by decide +kernel, by decide +kernel⟩
abbrev s_has_items : Stmt := topS 11
abbrev N_has_items : List Str := ["value", "least", "most"]
theorem sc_has_items : FnScope N_has_items ["value", "least", "most"] (defScope s_has_items) := ⟨rfl, rfl, rfl, by decide +kernel, rfl, by decide +kernel, by decide +kernel⟩
abbrev s_is_rising : Stmt := topS 12
abbrev N_is_rising : List Str := ["values", "at"]
theorem sc_is_rising : FnScope N_is_rising ["values"] (defScope s_is_rising) := ⟨rfl, rfl, rfl, by decide +kernel, rfl, by decide +kernel, by decide +kernel⟩
abbrev s_is_number : Stmt := topS 10
abbrev N_is_number : List Str := ["value", "least", "most"]
theorem sc_is_number : FnScope N_is_number ["value", "least", "most"] (defScope s_is_number) := ⟨rfl, rfl, rfl, by decide +kernel, rfl, by decide +kernel, by decide +kernel⟩
abbrev s_is_event : Stmt := topS 23
abbrev N_is_event : List Str := ["value", "kind", "other", "word"]
theorem sc_is_event : FnScope N_is_event ["value"] (defScope s_is_event) := ⟨rfl, rfl, rfl, by decide +kernel, rfl, by decide +kernel, by decide +kernel⟩
abbrev s_is_step : Stmt := topS 22
abbrev N_is_step : List Str := ["value", "many"]
theorem sc_is_step : FnScope N_is_step ["value", "many"] (defScope s_is_step) := ⟨rfl, rfl, rfl, by decide +kernel, rfl, by decide +kernel, by decide +kernel⟩
abbrev s_is_state : Stmt := topS 21
abbrev N_is_state : List Str := ["value", "many", "rest", "steps", "step"]
theorem sc_is_state : FnScope N_is_state ["value", "many"] (defScope s_is_state) := ⟨rfl, rfl, rfl, by decide +kernel, rfl, by decide +kernel, by decide +kernel⟩
abbrev s_is_part : Stmt := topS 20
abbrev N_is_part : List Str := ["value", "state"]
theorem sc_is_part : FnScope N_is_part ["value"] (defScope s_is_part) := ⟨rfl, rfl, rfl, by decide +kernel, rfl, by decide +kernel, by decide +kernel⟩
abbrev s_is_other : Stmt := topS 30
abbrev N_is_other : List Str := ["value", "actor", "actors"]
theorem sc_is_other : FnScope N_is_other ["value", "actor", "actors"] (defScope s_is_other) := ⟨rfl, rfl, rfl, by decide +kernel, rfl, by decide +kernel, by decide +kernel⟩
abbrev s_is_part_of : Stmt := topS 29
abbrev N_is_part_of : List Str := ["value", "actor", "actors", "_", "steps", "step"]
theorem sc_is_part_of : FnScope N_is_part_of ["value", "actor", "actors"] (defScope s_is_part_of) := ⟨rfl, rfl, rfl, by decide +kernel, rfl, by decide +kernel, by decide +kernel⟩
abbrev s_check_cast : Stmt := topS 28
abbrev N_check_cast : List Str := ["cast", "index", "part"]
theorem sc_check_cast : FnScope N_check_cast ["cast"] (defScope s_check_cast) := ⟨rfl, rfl, rfl, by decide +kernel, rfl, by decide +kernel, by decide +kernel⟩
abbrev s_check_actor : Stmt := topS 14
abbrev N_check_actor : List Str := ["value", "actors"]
theorem sc_check_actor : FnScope N_check_actor ["value", "actors"] (defScope s_check_actor) := ⟨rfl, rfl, rfl, by decide +kernel, rfl, by decide +kernel, by decide +kernel⟩
abbrev s_check_part : Stmt := topS 19
abbrev N_check_part : List Str := ["part", "index", "state"]
theorem sc_check_part : FnScope N_check_part ["part"] (defScope s_check_part) := ⟨rfl, rfl, rfl, by decide +kernel, rfl, by decide +kernel, by decide +kernel⟩
abbrev s_replaced : Stmt := topS 32
abbrev N_replaced : List Str := ["values", "at", "value"]
theorem sc_replaced : FnScope N_replaced ["values", "at", "value"] (defScope s_replaced) := ⟨rfl, rfl, rfl, by decide +kernel, rfl, by decide +kernel, by decide +kernel⟩
abbrev s_with_part : Stmt := topS 33
abbrev N_with_part : List Str := ["cast", "actor", "part"]
theorem sc_with_part : FnScope N_with_part ["cast", "actor", "part"] (defScope s_with_part) := ⟨rfl, rfl, rfl, by decide +kernel, rfl, by decide +kernel, by decide +kernel⟩
abbrev s_law_told : Stmt := topS 53
abbrev N_law_told : List Str := ["work", "e"]
theorem sc_law_told : FnScope N_law_told ["work"] (defScope s_law_told) := ⟨rfl, rfl, rfl, by decide +kernel, rfl, by decide +kernel, by decide +kernel⟩
abbrev s_check_number : Stmt := topS 13
abbrev N_check_number : List Str := ["value", "least", "most"]
theorem sc_check_number : FnScope N_check_number ["value", "least", "most"] (defScope s_check_number) := ⟨rfl, rfl, rfl, by decide +kernel, rfl, by decide +kernel, by decide +kernel⟩
abbrev s_check_state_of : Stmt := topS 34
abbrev N_check_state_of : List Str := ["part", "state"]
theorem sc_check_state_of : FnScope N_check_state_of ["part", "state"] (defScope s_check_state_of) := ⟨rfl, rfl, rfl, by decide +kernel, rfl, by decide +kernel, by decide +kernel⟩
abbrev s_check_event : Stmt := topS 35
abbrev N_check_event : List Str := ["event"]
theorem sc_check_event : FnScope N_check_event ["event"] (defScope s_check_event) := ⟨rfl, rfl, rfl, by decide +kernel, rfl, by decide +kernel, by decide +kernel⟩
abbrev s_behind_events : Stmt := topS 24
abbrev N_behind_events : List Str := ["state", "_", "steps", "step"]
theorem sc_behind_events : FnScope N_behind_events ["state"] (defScope s_behind_events) := ⟨rfl, rfl, rfl, by decide +kernel, rfl, by decide +kernel, by decide +kernel⟩
abbrev s_without_event : Stmt := topS 36
abbrev N_without_event : List Str := ["part", "state", "event", "rest", "steps", "step"]
theorem sc_without_event : FnScope N_without_event ["part", "state", "event"] (defScope s_without_event) := ⟨rfl, rfl, rfl, by decide +kernel, rfl, by decide +kernel, by decide +kernel⟩
abbrev s_resting : Stmt := topS 38
abbrev N_resting : List Str := ["part", "state", "rest", "_", "steps"]
theorem sc_resting : FnScope N_resting ["part", "state", "rest"] (defScope s_resting) := ⟨rfl, rfl, rfl, by decide +kernel, rfl, by decide +kernel, by decide +kernel⟩
abbrev s_plus_event : Stmt := topS 37
abbrev N_plus_event : List Str := ["part", "state", "event", "there", "rest", "steps"]
theorem sc_plus_event : FnScope N_plus_event ["part", "state", "event", "there"] (defScope s_plus_event) := ⟨rfl, rfl, rfl, by decide +kernel, rfl, by decide +kernel, by decide +kernel⟩
abbrev s_law : Stmt := topS 54
abbrev N_law : List Str := ["script", "row", "rest", "steps", "known", "less", "more", "flag", "cast", "actor", "event", "part", "state", "there", "step"]
theorem sc_law : FnScope N_law ["script"] (defScope s_law) := ⟨rfl, rfl, rfl, by decide +kernel, rfl, by decide +kernel, by decide +kernel⟩
section
variable {P : Program} {w : World} {K : PySem.W.Frag} {mg : Str → Option Value} {base : Heap}
theorem ok_law_taken {f : Addr} {fd : FuncData} {k : Nat} (F : Fun K "_law_taken" "_law_taken" s_law_taken f fd) (z_int : mg "int" = none) (z_len : mg "len" = none) : FnOk P w K mg base CX0 (k + 1) f fd ["row", "many"] (spR K m_law_taken) := by
  refine RT.ok_fnR F sc_law_taken (by decide) (by decide) (fun cdv A outer s H E hr => ?_)
  unfold b_law_taken
  exact sss_cons (ss_if (st_cmp od_gt (sb_of (se_row (i := 0))) (sb_of se_int) (nomark _)) (sss_cons (ss_set (i := 2) (sc_law_taken.nd) rfl (by first | exact Or.inl rfl | exact Or.inr rfl) (sx_of (se_op od_mod (sb_of (se_callTy cd_int (by rfl) z_int v_int (sbs_cons (sb_of (se_row (i := 0))) sbs_nil))) (sb_var 1))))
      (sss_cons (ss_row (i := 0) (se_op od_div (sb_of (se_row (i := 0))) (sb_var 1)))
      (sss_one (ss_ret (se_var 2))))) sss_nil)
      (sss_cons (ss_row (i := 0) (se_op od_addA (sb_of (se_row (i := 0))) (sb_of se_int)))
      (sss_cons (ss_if (st_cmp od_gt (sb_of (se_row (i := 0))) (sb_of (se_rowlen (i := 0) (by rfl) z_len)) (nomark _)) (sss_cons (ss_row (i := 0) (se_op od_mod (sb_of (se_callTy cd_int (by rfl) z_int v_int (sbs_cons (sb_of (se_op od_addA (sb_of (se_op od_mulA (sb_of (se_row (i := 0))) (sb_of se_int))) (sb_of se_int))) sbs_nil))) (sb_of se_int)))
      (sss_one (ss_ret (se_op od_mod (sb_of (se_callTy cd_int (by rfl) z_int v_int (sbs_cons (sb_of (se_op od_div (sb_of (se_row (i := 0))) (sb_of se_int))) sbs_nil))) (sb_var 1))))) sss_nil)
      (sss_cons (ss_set (i := 3) (sc_law_taken.nd) rfl (by first | exact Or.inl rfl | exact Or.inr rfl) (sx_of (se_rowat (i := 0) (se_op od_sub (sb_of (se_row (i := 0))) (sb_of se_int)))))
      (sss_cons (ss_row (i := 0) (se_op od_mod (sb_of (se_callTy cd_int (by rfl) z_int v_int (sbs_cons (sb_of (se_op od_addA (sb_of (se_op od_addA (sb_of (se_op od_mulA (sb_of (se_row (i := 0))) (sb_of se_int))) (sb_var 3))) (sb_of se_int))) sbs_nil))) (sb_of se_int)))
      (sss_cons (ss_if (st_cmp od_ge (sb_var 3) (sb_of (se_op od_pow (sb_of se_int) (sb_of se_int))) (nomark _)) (sss_one (ss_row (i := 0) (se_op od_div (sb_var 3) (sb_var 1)))) sss_nil)
      (sss_one (ss_ret (se_op od_mod (sb_of (se_callTy cd_int (by rfl) z_int v_int (sbs_cons (sb_var 3) sbs_nil))) (sb_var 1)))))))))
theorem ok_law_pick {f : Addr} {fd : FuncData} {k : Nat} (F : Fun K "_law_pick" "_law_pick" s_law_pick f fd) (c_law_taken : Callee P w K mg base k "_law_taken" (spR K m_law_taken)) (z_len : mg "len" = none) : FnOk P w K mg base CX0 (k + 1) f fd ["row", "kinds"] (spR K m_law_pick) := by
  refine RT.ok_fnR F sc_law_pick (by decide) (by decide) (fun cdv A outer s H E hr => ?_)
  unfold b_law_pick
  exact sss_one (ss_ret (se_at (hu_of hr) (sb_var 1) (sb_of (se_callR (i := 0) c_law_taken hr (by rfl) (sa_cons (se_callB cd_len (by rfl) z_len v_len (sbs_cons (sb_var 1) sbs_nil)) sa_nil)))))
theorem ok_law_state {f : Addr} {fd : FuncData} {k : Nat} (F : Fun K "_law_state" "_law_state" s_law_state f fd) (c_law_taken : Callee P w K mg base k "_law_taken" (spR K m_law_taken)) (c_law_pick : Callee P w K mg base k "_law_pick" (spR K m_law_pick)) (z_tuple : mg "tuple" = none) (z_sorted : mg "sorted" = none) (z_list : mg "list" = none) (z_range : mg "range" = none) : FnOk P w K mg base CX0 (k + 1) f fd ["row", "size", "plain"] (spR K m_law_state) := by
  refine RT.ok_fnR F sc_law_state (by decide) (by decide) (fun cdv A outer s H E hr => ?_)
  unfold b_law_state
  exact sss_cons (ss_parT (is := [3, 4]) rfl (sc_law_state.nd) (.cons rfl (by first | exact Or.inl rfl | exact Or.inr rfl) (Or.inl rfl) rfl (.cons rfl (by first | exact Or.inl rfl | exact Or.inr rfl) (Or.inl rfl) rfl .nil)) (sxs_cons (sx_of (se_callR (i := 0) c_law_pick hr (by rfl) (sa_cons (se_lst (sa_cons se_str (sa_cons se_str sa_nil))) sa_nil))) (sxs_cons sx_dT sxs_nil)) (by decide) rfl rfl rfl rfl rfl)
      (sss_cons (ss_for PassesOwn.never rfl (si_rg1 (by rfl) z_range (se_callR (i := 0) c_law_taken hr (by rfl) (sa_cons se_int sa_nil))) (sg_name 5 (vs := [5]) (sc_law_state.nd) rfl (by first | exact Or.inl rfl | exact Or.inr rfl) (by decide)) (sss_cons (ss_set (i := 3) (sc_law_state.nd) rfl (by first | exact Or.inl rfl | exact Or.inr rfl) (sx_of (se_if (st_tru (sb_var 2)) (se_var 3) (se_callR (i := 0) c_law_pick hr (by rfl) (sa_cons (se_lst (sa_cons se_str (sa_cons se_str sa_nil))) sa_nil)))))
      (sss_one (ss_dput (i := 4) (hu_of hr) (se_callR (i := 0) c_law_taken hr (by rfl) (sa_cons (se_var 1) sa_nil)) (se_tup (sa_cons (se_var 3) (sa_cons (se_op od_addA (sb_of se_int) (sb_of (se_callR (i := 0) c_law_taken hr (by rfl) (sa_cons se_int sa_nil)))) (sa_cons (se_callR (i := 0) c_law_taken hr (by rfl) (sa_cons se_int sa_nil)) sa_nil))))))))
      (sss_cons (ss_set (i := 6) (sc_law_state.nd) rfl (by first | exact Or.inl rfl | exact Or.inr rfl) (sx_of (se_callTy cd_tuple (by rfl) z_tuple v_tuple (sbs_cons (sb_of (se_callB (cd_sortX (room66 hr)) (by rfl) z_sorted v_sorted (sbs_cons (sb_of (se_ofX (sx_lc (own := [("head", 7)]) rfl (sc_law_state.nd) (si_seq (se_callTy (cd_list rfl) (by rfl) z_list v_list (sbs_cons (sb_var 4) sbs_nil))) (blkOk_by (own := [("head", 7)]) (N := N_law_state) (sc := defScope s_law_state) (by decide +kernel)) (fun _ _ _ _ _ => sg_name 7 (vs := [7]) (sc_law_state.nd) rfl (by first | exact Or.inl rfl | exact Or.inr rfl) (by decide)) (fun _ _ _ _ _ => sts_nil) (fun _ _ _ _ _ => se_op od_addA (sb_var 7) (sb_of (se_tup (sa_cons (se_at (hu_of hr) (sb_var 4) (sb_var 7)) sa_nil))))))) sbs_nil))) sbs_nil))))
      (sss_cons (ss_if (st_cmp (od_eq hr.units) (sb_var 6) (sb_of (se_tup sa_nil)) (nomark _)) (sss_one (ss_ret (se_tup (sa_cons (se_or (se_var 2) (se_one (se_cmp (od_eq hr.units) (sb_of (se_callR (i := 0) c_law_taken hr (by rfl) (sa_cons se_int sa_nil))) (sb_of se_int) (nomark _)))) (sa_cons (se_var 6) sa_nil))))) sss_nil)
      (sss_one (ss_ret (se_tup (sa_cons (se_if (st_tru (sb_var 2)) (se_and (se_cmp (od_eq hr.units) (sb_var 3) (sb_of se_str) (nomark _)) (se_one (se_cmp (od_eq hr.units) (sb_of (se_callR (i := 0) c_law_taken hr (by rfl) (sa_cons se_int sa_nil))) (sb_of se_int) (nomark _)))) (se_cmp (od_eq hr.units) (sb_of (se_callR (i := 0) c_law_taken hr (by rfl) (sa_cons se_int sa_nil))) (sb_of se_int) (nomark _))) (sa_cons (se_var 6) sa_nil))))))))
theorem ok_law_part {f : Addr} {fd : FuncData} {k : Nat} (F : Fun K "_law_part" "_law_part" s_law_part f fd) (c_law_state : Callee P w K mg base k "_law_state" (spR K m_law_state)) (c_law_taken : Callee P w K mg base k "_law_taken" (spR K m_law_taken)) (z_tuple : mg "tuple" = none) (z_range : mg "range" = none) : FnOk P w K mg base CX0 (k + 1) f fd ["row", "most", "plain"] (spR K m_law_part) := by
  refine RT.ok_fnR F sc_law_part (by decide) (by decide) (fun cdv A outer s H E hr => ?_)
  unfold b_law_part
  exact sss_cons (ss_set (i := 3) (sc_law_part.nd) rfl (by first | exact Or.inl rfl | exact Or.inr rfl) (sx_of (se_op od_addA (sb_of se_int) (sb_of (se_callR (i := 0) c_law_taken hr (by rfl) (sa_cons (se_var 1) sa_nil))))))
      (sss_one (ss_ret (se_callTy cd_tuple (by rfl) z_tuple v_tuple (sbs_cons (sb_of (se_ofX (sx_lc (own := [("at", 4)]) rfl (sc_law_part.nd) (si_rg1 (by rfl) z_range (se_var 3)) (blkOk_by (own := [("at", 4)]) (N := N_law_part) (sc := defScope s_law_part) (by decide +kernel)) (fun _ _ _ _ _ => sg_name 4 (vs := [4]) (sc_law_part.nd) rfl (by first | exact Or.inl rfl | exact Or.inr rfl) (by decide)) (fun _ _ _ _ _ => sts_nil) (fun _ _ _ _ _ => se_callR (i := 0) c_law_state hr (by rfl) (sa_cons (se_var 3) (sa_cons (se_var 2) sa_nil)))))) sbs_nil))))
theorem ok_law_branches {f : Addr} {fd : FuncData} {k : Nat} (F : Fun K "_law_branches" "_law_branches" s_law_branches f fd) : FnOk P w K mg base CX0 (k + 1) f fd ["script", "scene"] (spF K m_law_branches) := by
  refine RT.ok_fn F sc_law_branches (fun cdv A outer s H E hr => ?_)
  unfold b_law_branches
  exact sss_one (ss_ret (se_if (st_cmp od_notN (sb_of (se_at (hu_of hr) (sb_of (se_at (hu_of hr) (sb_var 0) (sb_of se_int))) (sb_var 1))) (sb_of se_non) (nomark _)) (se_at (hu_of hr) (sb_of (se_at (hu_of hr) (sb_of (se_at (hu_of hr) (sb_var 0) (sb_of se_int))) (sb_var 1))) (sb_of se_int)) (se_tup sa_nil)))
theorem ok_law_event {f : Addr} {fd : FuncData} {k : Nat} (F : Fun K "_law_event" "_law_event" s_law_event f fd) : FnOk P w K mg base CX0 (k + 1) f fd ["script", "scene", "branch", "actor"] (spF K m_law_event) := by
  refine RT.ok_fn F sc_law_event (fun cdv A outer s H E hr => ?_)
  unfold b_law_event
  exact sss_cons (ss_set (i := 4) (sc_law_event.nd) rfl (by first | exact Or.inl rfl | exact Or.inr rfl) (sx_of (se_at (hu_of hr) (sb_of (se_at (hu_of hr) (sb_of (se_at (hu_of hr) (sb_var 0) (sb_of se_int))) (sb_var 1))) (sb_of se_int))))
      (sss_cons (ss_if (st_cmp (od_eq hr.units) (sb_var 3) (sb_var 4) (nomark _)) (sss_one (ss_ret (se_tup (sa_cons se_str (sa_cons (se_at (hu_of hr) (sb_var 2) (sb_of se_int)) (sa_cons (se_at (hu_of hr) (sb_var 2) (sb_of se_int)) sa_nil)))))) sss_nil)
      (sss_one (ss_ret (se_if (st_cmp (od_eq hr.units) (sb_var 3) (sb_of (se_at (hu_of hr) (sb_var 2) (sb_of se_int))) (nomark _)) (se_tup (sa_cons se_str (sa_cons (se_var 4) (sa_cons (se_at (hu_of hr) (sb_var 2) (sb_of se_int)) sa_nil)))) se_non))))
theorem ok_law_joined {f : Addr} {fd : FuncData} {k : Nat} (F : Fun K "_law_joined" "_law_joined" s_law_joined f fd) (c_law_branches : Callee P w K mg base k "_law_branches" (spF K m_law_branches)) (c_law_event : Callee P w K mg base k "_law_event" (spF K m_law_event)) (z_tuple : mg "tuple" = none) (z_sorted : mg "sorted" = none) (z_list : mg "list" = none) (z_dict : mg "dict" = none) : FnOk P w K mg base CX0 (k + 1) f fd ["script", "scenes", "actor"] (spF K m_law_joined) := by
  refine RT.ok_fn F sc_law_joined (fun cdv A outer s H E hr => ?_)
  unfold b_law_joined
  exact sss_cons (ss_par3 (i := 3) (j := 4) (l := 5) rfl (sc_law_joined.nd) rfl rfl rfl (by decide) (by decide) (by decide) rfl rfl rfl (sxs_cons (sx_dictP rfl (by rfl) z_dict (se_ofX (sx_lc (own := [("scene", 9)]) rfl (sc_law_joined.nd) (si_seq (se_var 1)) (blkOk_by (own := [("scene", 9)]) (N := N_law_joined) (sc := defScope s_law_joined) (by decide +kernel)) (fun _ _ _ _ _ => sg_name 9 (vs := [9]) (sc_law_joined.nd) rfl (by first | exact Or.inl rfl | exact Or.inr rfl) (by decide)) (fun _ _ _ _ _ => sts_nil) (fun _ _ _ _ _ => se_tup (sa_cons (se_var 9) (sa_cons se_bl sa_nil)))))) (sxs_cons (sx_of (se_callTy (cd_list rfl) (by rfl) z_list v_list (sbs_cons (sb_var 1) sbs_nil))) (sxs_cons (sx_of se_int) sxs_nil))) rfl)
      (sss_cons (ss_while 1000 PassesOwn.never (st_w (sw_and (st_cmp (od_ne hr.units) (sb_var 4) (sb_of (se_lst sa_nil)) (nomark _)) (sw_and1 (st_cmp (od_ltX hr.units) (sb_var 5) (sb_of se_int) (nomark _))))) (sss_cons (ss_par2 (i := 5) (j := 6) rfl (sc_law_joined.nd) rfl rfl (by decide) rfl rfl (sxs_cons (sx_of (se_op od_addA (sb_var 5) (sb_of se_int))) (sxs_cons (sx_lst sa_nil) sxs_nil)) rfl)
      (sss_cons (ss_for PassesOwn.never rfl (si_seq (se_var 4)) (sg_name 7 (vs := [7]) (sc_law_joined.nd) rfl (by first | exact Or.inl rfl | exact Or.inr rfl) (by decide)) (sss_one (ss_for PassesOwn.never rfl (si_seq (se_call c_law_branches hr (by rfl) (sa_cons (se_var 0) (sa_cons (se_var 7) sa_nil)))) (sg_name 8 (vs := [8]) (sc_law_joined.nd) rfl (by first | exact Or.inl rfl | exact Or.inr rfl) (by decide)) (sss_one (ss_if (st_w (sw_and (st_cmp od_isN (sb_of (se_call c_law_event hr (by rfl) (sa_cons (se_var 0) (sa_cons (se_var 7) (sa_cons (se_var 8) (sa_cons (se_var 2) sa_nil)))))) (sb_of se_non) (nomark _)) (sw_and1 (st_notInA (room65 hr) (sb_of (se_at (hu_of hr) (sb_var 8) (sb_of se_int))) (sb_var 3))))) (sss_cons (ss_dput (i := 3) (hu_of hr) se_bl (se_at (hu_of hr) (sb_var 8) (sb_of se_int)))
      (sss_one (ss_app (i := 6) (se_at (hu_of hr) (sb_var 8) (sb_of se_int))))) sss_nil)))))
      (sss_one (ss_frz 6 (ss_set (i := 4) (sc_law_joined.nd) rfl (by first | exact Or.inl rfl | exact Or.inr rfl) (sx_of (se_var 6))))))))
      (sss_one (ss_ret (se_callTy cd_tuple (by rfl) z_tuple v_tuple (sbs_cons (sb_of (se_callB (cd_sortX (room66 hr)) (by rfl) z_sorted v_sorted (sbs_cons (sb_of (se_callTy (cd_list rfl) (by rfl) z_list v_list (sbs_cons (sb_var 3) sbs_nil))) sbs_nil))) sbs_nil)))))
theorem ok_law_steps {f : Addr} {fd : FuncData} {k : Nat} (F : Fun K "_law_steps" "_law_steps" s_law_steps f fd) (c_law_joined : Callee P w K mg base k "_law_joined" (spF K m_law_joined)) (c_law_branches : Callee P w K mg base k "_law_branches" (spF K m_law_branches)) (c_law_event : Callee P w K mg base k "_law_event" (spF K m_law_event)) (z_sorted : mg "sorted" = none) (z_list : mg "list" = none) : FnOk P w K mg base CX0 (k + 1) f fd ["script", "scenes", "actor"] (spF K m_law_steps) := by
  refine RT.ok_fn F sc_law_steps (fun cdv A outer s H E hr => ?_)
  unfold b_law_steps
  exact sss_cons (ss_set (i := 3) (sc_law_steps.nd) rfl (by first | exact Or.inl rfl | exact Or.inr rfl) sx_dT)
      (sss_cons (ss_for PassesOwn.never rfl (si_seq (se_var 1)) (sg_name 4 (vs := [4]) (sc_law_steps.nd) rfl (by first | exact Or.inl rfl | exact Or.inr rfl) (by decide)) (sss_one (ss_for PassesOwn.never rfl (si_seq (se_call c_law_branches hr (by rfl) (sa_cons (se_var 0) (sa_cons (se_var 4) sa_nil)))) (sg_name 5 (vs := [5]) (sc_law_steps.nd) rfl (by first | exact Or.inl rfl | exact Or.inr rfl) (by decide)) (sss_cons (ss_set (i := 6) (sc_law_steps.nd) rfl (by first | exact Or.inl rfl | exact Or.inr rfl) (sx_of (se_call c_law_event hr (by rfl) (sa_cons (se_var 0) (sa_cons (se_var 4) (sa_cons (se_var 5) (sa_cons (se_var 2) sa_nil)))))))
      (sss_one (ss_if (st_cmp od_notN (sb_var 6) (sb_of se_non) (nomark _)) (sss_one (ss_dput (i := 3) (hu_of hr) (se_op od_addA (sb_of (se_get2 (hu_of hr) (sb_var 3) (se_var 6) (se_lst sa_nil))) (sb_of (se_lst (sa_cons (se_at (hu_of hr) (sb_var 5) (sb_of se_int)) sa_nil)))) (se_var 6))) sss_nil))))))
      (sss_one (ss_ret (se_ofX (sx_lc (own := [("event", 6)]) rfl (sc_law_steps.nd) (si_seq (se_callB (cd_sortX (room66 hr)) (by rfl) z_sorted v_sorted (sbs_cons (sb_of (se_callTy (cd_list rfl) (by rfl) z_list v_list (sbs_cons (sb_var 3) sbs_nil))) sbs_nil))) (blkOk_by (own := [("event", 6)]) (N := N_law_steps) (sc := defScope s_law_steps) (by decide +kernel)) (fun _ _ _ _ _ => sg_name 6 (vs := [6]) (sc_law_steps.nd) rfl (by first | exact Or.inl rfl | exact Or.inr rfl) (by decide)) (fun _ _ _ _ _ => sts_nil) (fun _ _ _ _ _ => se_tup (sa_cons (se_var 6) (sa_cons (se_call c_law_joined hr (by rfl) (sa_cons (se_var 0) (sa_cons (se_at (hu_of hr) (sb_var 3) (sb_var 6)) (sa_cons (se_var 2) sa_nil)))) sa_nil))))))))
theorem ok_law_cut {f : Addr} {fd : FuncData} {k : Nat} (F : Fun K "_law_cut" "_law_cut" s_law_cut f fd) (c_law_steps : Callee P w K mg base k "_law_steps" (spF K m_law_steps)) (c_law_joined : Callee P w K mg base k "_law_joined" (spF K m_law_joined)) (z_tuple : mg "tuple" = none) (z_len : mg "len" = none) : FnOk P w K mg base CX0 (k + 1) f fd ["script", "actor"] (spF K m_law_cut) := by
  refine RT.ok_fn F sc_law_cut (fun cdv A outer s H E hr => ?_)
  unfold b_law_cut
  exact sss_cons (ss_par3 (i := 2) (j := 3) (l := 4) rfl (sc_law_cut.nd) rfl rfl rfl (by decide) (by decide) (by decide) rfl rfl rfl (sxs_cons (sx_lst (sa_cons (se_call c_law_joined hr (by rfl) (sa_cons (se_var 0) (sa_cons (se_lst (sa_cons se_int sa_nil)) (sa_cons (se_var 1) sa_nil)))) sa_nil)) (sxs_cons (sx_lst sa_nil) (sxs_cons (sx_of se_int) sxs_nil))) rfl)
      (sss_cons (ss_while 1000 PassesOwn.never (st_w (sw_and (st_cmp (od_ltX hr.units) (sb_of (se_callB cd_len (by rfl) z_len v_len (sbs_cons (sb_var 3) sbs_nil))) (sb_of (se_callB cd_len (by rfl) z_len v_len (sbs_cons (sb_var 2) sbs_nil))) (nomark _)) (sw_and1 (st_cmp (od_ltX hr.units) (sb_var 4) (sb_of se_int) (nomark _))))) (sss_cons (ss_par2 (i := 4) (j := 5) rfl (sc_law_cut.nd) rfl rfl (by decide) rfl rfl (sxs_cons (sx_of (se_op od_addA (sb_var 4) (sb_of se_int))) (sxs_cons (sx_lst sa_nil) sxs_nil)) rfl)
      (sss_cons (ss_set (i := 6) (sc_law_cut.nd) rfl (by first | exact Or.inl rfl | exact Or.inr rfl) (sx_of (se_call c_law_steps hr (by rfl) (sa_cons (se_var 0) (sa_cons (se_at (hu_of hr) (sb_var 2) (sb_of (se_callB cd_len (by rfl) z_len v_len (sbs_cons (sb_var 3) sbs_nil)))) (sa_cons (se_var 1) sa_nil))))))
      (sss_cons (ss_for PassesOwn.never rfl (si_seq (se_var 6)) (sg_tup (n := 2) rfl (sgs_cons (sg_name 7 (vs := [7, 8]) (sc_law_cut.nd) rfl (by first | exact Or.inl rfl | exact Or.inr rfl) (by decide)) (sgs_cons (sg_name 8 (vs := [7, 8]) (sc_law_cut.nd) rfl (by first | exact Or.inl rfl | exact Or.inr rfl) (by decide)) sgs_nil))) (sss_cons (ss_if (st_notInA (room65 hr) (sb_var 8) (sb_var 2)) (sss_one (ss_app (i := 2) (se_var 8))) sss_nil)
      (sss_one (ss_app (i := 5) (se_op od_addA (sb_var 7) (sb_of (se_tup (sa_cons (se_index (room65 hr) (sb_var 2) (sb_var 8)) sa_nil))))))))
      (sss_cons (ss_setLc (i := 9) (own := [("scene", 10)]) rfl (sc_law_cut.nd) rfl rfl (sw_true rfl rfl rfl (by decide +kernel)) (si_seq (se_at (hu_of hr) (sb_var 2) (sb_of (se_callB cd_len (by rfl) z_len v_len (sbs_cons (sb_var 3) sbs_nil))))) (blkOk_by (own := [("scene", 10)]) (N := N_law_cut) (sc := defScope s_law_cut) (by decide +kernel)) (fun _ _ _ _ _ => sg_name 10 (vs := [10]) (sc_law_cut.nd) rfl (by first | exact Or.inl rfl | exact Or.inr rfl) (by decide)) (fun _ _ _ _ _ => sts_one (st_cmp od_isN (sb_of (se_at (hu_of hr) (sb_of (se_at (hu_of hr) (sb_var 0) (sb_of se_int))) (sb_var 10))) (sb_of se_non) (nomark _))) (fun _ _ _ _ _ => se_var 10) (tr := (fun f => xVal (fOfX f))) (htr := (.inr rfl)))
      (sss_one (ss_app (i := 3) (se_tup (sa_cons (se_or (se_cmp (od_ne hr.units) (sb_var 9) (sb_of (se_lst sa_nil)) (nomark _)) (se_one (se_cmp (od_eq hr.units) (sb_var 5) (sb_of (se_lst sa_nil)) (nomark _)))) (sa_cons (se_callTy cd_tuple (by rfl) z_tuple v_tuple (sbs_cons (sb_var 5) sbs_nil)) sa_nil))))))))))
      (sss_one (ss_frz 2 (ss_ret (se_tup (sa_cons (se_var 2) (sa_cons (se_callTy cd_tuple (by rfl) z_tuple v_tuple (sbs_cons (sb_var 3) sbs_nil)) sa_nil)))))))
theorem ok_law_cast {f : Addr} {fd : FuncData} {k : Nat} (F : Fun K "_law_cast" "_law_cast" s_law_cast f fd) (c_law_cut : Callee P w K mg base k "_law_cut" (spF K m_law_cut)) (z_tuple : mg "tuple" = none) (z_range : mg "range" = none) : FnOk P w K mg base CX0 (k + 1) f fd ["script"] (spF K m_law_cast) := by
  refine RT.ok_fn F sc_law_cast (fun cdv A outer s H E hr => ?_)
  unfold b_law_cast
  exact sss_one (ss_ret (se_callTy cd_tuple (by rfl) z_tuple v_tuple (sbs_cons (sb_of (se_ofX (sx_lc (own := [("actor", 1)]) rfl (sc_law_cast.nd) (si_rg1 (by rfl) z_range (se_at (hu_of hr) (sb_var 0) (sb_of se_int))) (blkOk_by (own := [("actor", 1)]) (N := N_law_cast) (sc := defScope s_law_cast) (by decide +kernel)) (fun _ _ _ _ _ => sg_name 1 (vs := [1]) (sc_law_cast.nd) rfl (by first | exact Or.inl rfl | exact Or.inr rfl) (by decide)) (fun _ _ _ _ _ => sts_nil) (fun _ _ _ _ _ => se_at (hu_of hr) (sb_of (se_call c_law_cut hr (by rfl) (sa_cons (se_var 0) (sa_cons (se_var 1) sa_nil)))) (sb_of se_int))))) sbs_nil)))
theorem okr_law_alike {f : Addr} {fd : FuncData} {k : Nat} {rec : List D → Option D} (F : Fun K "_law_alike" "_law_alike" s_law_alike f fd) (c_law_alike : Callee P w K mg base k "_law_alike" (spF K rec)) (z_isinstance : mg "isinstance" = none) (z_bool : mg "bool" = none) (z_int : mg "int" = none) (z_str : mg "str" = none) (z_tuple : mg "tuple" = none) (z_list : mg "list" = none) (z_range : mg "range" = none) (z_len : mg "len" = none) : FnOk P w K mg base CX0 (k + 1) f fd ["found", "due"] (spF K (mkF 3 2 (b_law_alike rec))) := by
  refine RT.ok_fn F sc_law_alike (fun cdv A outer s H E hr => ?_)
  unfold b_law_alike
  exact sss_cons (ss_if (st_tru (sb_of (se_isi2 (T := .tuple) (U := .list) (by rfl) z_isinstance (sb_var 1) (by rfl) z_tuple v_tuple (by rfl) z_list v_list))) (sss_cons (ss_if (st_w (sw_or (st_not (st_tru (sb_of (se_isi2 (T := .tuple) (U := .list) (by rfl) z_isinstance (sb_var 0) (by rfl) z_tuple v_tuple (by rfl) z_list v_list)))) (sw_or1 (st_cmp (od_ne hr.units) (sb_of (se_isi (T := .list) (by rfl) z_isinstance (sb_var 0) (by rfl) z_list v_list)) (sb_of (se_isi (T := .list) (by rfl) z_isinstance (sb_var 1) (by rfl) z_list v_list)) (nomark _))))) (sss_one (ss_ret se_bl)) sss_nil)
      (sss_cons (ss_if (st_cmp (od_ne hr.units) (sb_of (se_callB cd_len (by rfl) z_len v_len (sbs_cons (sb_var 0) sbs_nil))) (sb_of (se_callB cd_len (by rfl) z_len v_len (sbs_cons (sb_var 1) sbs_nil))) (nomark _)) (sss_one (ss_ret se_bl)) sss_nil)
      (sss_one (ss_ret (se_cmp (od_eq hr.units) (sb_of (se_ofX (sx_lc (own := [("k", 2)]) rfl (sc_law_alike.nd) (si_rg1 (by rfl) z_range (se_callB cd_len (by rfl) z_len v_len (sbs_cons (sb_var 1) sbs_nil))) (blkOk_by (own := [("k", 2)]) (N := N_law_alike) (sc := defScope s_law_alike) (by decide +kernel)) (fun _ _ _ _ _ => sg_name 2 (vs := [2]) (sc_law_alike.nd) rfl (by first | exact Or.inl rfl | exact Or.inr rfl) (by decide)) (fun _ _ _ _ _ => sts_one (st_not (st_tru (sb_of (se_call c_law_alike hr (by rfl) (sa_cons (se_at (hu_of hr) (sb_var 0) (sb_var 2)) (sa_cons (se_at (hu_of hr) (sb_var 1) (sb_var 2)) sa_nil))))))) (fun _ _ _ _ _ => se_var 2)))) (sb_of (se_lst sa_nil)) (nomark _)))))) sss_nil)
      (sss_cons (ss_if (st_w (sw_or (st_cmp od_isN (sb_var 1) (sb_of se_non) (nomark _)) (sw_or1 (st_tru (sb_of (se_isi (T := .str) (by rfl) z_isinstance (sb_var 1) (by rfl) z_str v_str)))))) (sss_one (ss_ret (se_and (se_cmp (od_eq hr.units) (sb_var 0) (sb_var 1) (nomark _)) (se_one (se_cmp (od_eq hr.units) (sb_of (se_isi (T := .str) (by rfl) z_isinstance (sb_var 0) (by rfl) z_str v_str)) (sb_of (se_isi (T := .str) (by rfl) z_isinstance (sb_var 1) (by rfl) z_str v_str)) (nomark _)))))) sss_nil)
      (sss_one (ss_ret (se_and (se_isi (T := .int) (by rfl) z_isinstance (sb_var 0) (by rfl) z_int v_int) (se_and (se_cmp (od_eq hr.units) (sb_of (se_isi (T := .bool) (by rfl) z_isinstance (sb_var 0) (by rfl) z_bool v_bool)) (sb_of (se_isi (T := .bool) (by rfl) z_isinstance (sb_var 1) (by rfl) z_bool v_bool)) (nomark _)) (se_one (se_cmp (od_eq hr.units) (sb_var 0) (sb_var 1) (nomark _))))))))
theorem ok_law_alike {f : Addr} {fd : FuncData} {k : Nat} (F : Fun K "_law_alike" "_law_alike" s_law_alike f fd) (hm : mg "_law_alike" = some (.ref f)) (hb : Binds K fd ["found", "due"] []) (z_isinstance : mg "isinstance" = none) (z_bool : mg "bool" = none) (z_int : mg "int" = none) (z_str : mg "str" = none) (z_tuple : mg "tuple" = none) (z_list : mg "list" = none) (z_range : mg "range" = none) (z_len : mg "len" = none) : ∀ n : Nat, FnOk P w K mg base CX0 (k + n) f fd ["found", "due"] (spF K (m_law_alike n))
  | 0 => ok_none
  | n + 1 => okr_law_alike (k := k + n) F ⟨f, fd, _, ok_law_alike F hm hb z_isinstance z_bool z_int z_str z_tuple z_list z_range z_len n, hm, F.kp, hb⟩ z_isinstance z_bool z_int z_str z_tuple z_list z_range z_len
theorem ok_law_scene {f : Addr} {fd : FuncData} {k : Nat} (F : Fun K "_law_scene" "_law_scene" s_law_scene f fd) (c_law_taken : Callee P w K mg base k "_law_taken" (spR K m_law_taken)) (z_tuple : mg "tuple" = none) (z_sorted : mg "sorted" = none) (z_list : mg "list" = none) (z_range : mg "range" = none) (z_int : mg "int" = none) : FnOk P w K mg base CX0 (k + 1) f fd ["row", "actors", "at", "size", "loops"] (spR K m_law_scene) := by
  refine RT.ok_fnR F sc_law_scene (by decide) (by decide) (fun cdv A outer s H E hr => ?_)
  unfold b_law_scene
  exact sss_cons (ss_parT (is := [5, 6]) rfl (sc_law_scene.nd) (.cons rfl (by first | exact Or.inl rfl | exact Or.inr rfl) (Or.inl rfl) rfl (.cons rfl (by first | exact Or.inl rfl | exact Or.inr rfl) (Or.inl rfl) rfl .nil)) (sxs_cons (sx_of (se_callR (i := 0) c_law_taken hr (by rfl) (sa_cons (se_var 1) sa_nil))) (sxs_cons sx_dT sxs_nil)) (by decide) rfl rfl rfl rfl rfl)
      (sss_cons (ss_for PassesOwn.never rfl (si_rg1 (by rfl) z_range (se_op od_addA (sb_of se_int) (sb_of (se_callR (i := 0) c_law_taken hr (by rfl) (sa_cons se_int sa_nil))))) (sg_name 7 (vs := [7]) (sc_law_scene.nd) rfl (by first | exact Or.inl rfl | exact Or.inr rfl) (by decide)) (sss_cons (ss_set (i := 8) (sc_law_scene.nd) rfl (by first | exact Or.inl rfl | exact Or.inr rfl) (sx_of (se_op od_mod (sb_of (se_callTy cd_int (by rfl) z_int v_int (sbs_cons (sb_of (se_op od_addA (sb_of (se_op od_addA (sb_var 5) (sb_of se_int))) (sb_of (se_callR (i := 0) c_law_taken hr (by rfl) (sa_cons (se_op od_sub (sb_var 1) (sb_of se_int)) sa_nil))))) sbs_nil))) (sb_var 1))))
      (sss_cons (ss_set (i := 9) (sc_law_scene.nd) rfl (by first | exact Or.inl rfl | exact Or.inr rfl) (sx_of (se_if (st_tru (sb_var 4)) (se_callR (i := 0) c_law_taken hr (by rfl) (sa_cons (se_op od_addA (sb_var 3) (sb_of se_int)) sa_nil)) (se_op od_addA (sb_of (se_op od_addA (sb_var 2) (sb_of se_int))) (sb_of (se_callR (i := 0) c_law_taken hr (by rfl) (sa_cons (se_op od_sub (sb_var 3) (sb_var 2)) sa_nil)))))))
      (sss_one (ss_dput (i := 6) (hu_of hr) (se_var 9) (se_tup (sa_cons (se_var 8) (sa_cons (se_callR (i := 0) c_law_taken hr (by rfl) (sa_cons se_int sa_nil)) sa_nil))))))))
      (sss_one (ss_ret (se_tup (sa_cons (se_var 5) (sa_cons (se_callTy cd_tuple (by rfl) z_tuple v_tuple (sbs_cons (sb_of (se_callB (cd_sortX (room66 hr)) (by rfl) z_sorted v_sorted (sbs_cons (sb_of (se_ofX (sx_lc (own := [("head", 10)]) rfl (sc_law_scene.nd) (si_seq (se_callTy (cd_list rfl) (by rfl) z_list v_list (sbs_cons (sb_var 6) sbs_nil))) (blkOk_by (own := [("head", 10)]) (N := N_law_scene) (sc := defScope s_law_scene) (by decide +kernel)) (fun _ _ _ _ _ => sg_name 10 (vs := [10]) (sc_law_scene.nd) rfl (by first | exact Or.inl rfl | exact Or.inr rfl) (by decide)) (fun _ _ _ _ _ => sts_nil) (fun _ _ _ _ _ => se_op od_addA (sb_var 10) (sb_of (se_tup (sa_cons (se_at (hu_of hr) (sb_var 6) (sb_var 10)) sa_nil))))))) sbs_nil))) sbs_nil)) sa_nil))))))
theorem ok_law_script {f : Addr} {fd : FuncData} {k : Nat} (F : Fun K "_law_script" "_law_script" s_law_script f fd) (c_law_scene : Callee P w K mg base k "_law_scene" (spR K m_law_scene)) (c_law_taken : Callee P w K mg base k "_law_taken" (spR K m_law_taken)) (z_tuple : mg "tuple" = none) (z_range : mg "range" = none) : FnOk P w K mg base CX0 (k + 1) f fd ["row", "actors", "most", "loops"] (spR K m_law_script) := by
  refine RT.ok_fnR F sc_law_script (by decide) (by decide) (fun cdv A outer s H E hr => ?_)
  unfold b_law_script
  exact sss_cons (ss_set (i := 4) (sc_law_script.nd) rfl (by first | exact Or.inl rfl | exact Or.inr rfl) (sx_of (se_op od_addA (sb_of se_int) (sb_of (se_callR (i := 0) c_law_taken hr (by rfl) (sa_cons (se_var 2) sa_nil))))))
      (sss_one (ss_ret (se_tup (sa_cons (se_var 1) (sa_cons (se_op od_addA (sb_of (se_callTy cd_tuple (by rfl) z_tuple v_tuple (sbs_cons (sb_of (se_ofX (sx_lc (own := [("at", 5)]) rfl (sc_law_script.nd) (si_rg1 (by rfl) z_range (se_var 4)) (blkOk_by (own := [("at", 5)]) (N := N_law_script) (sc := defScope s_law_script) (by decide +kernel)) (fun _ _ _ _ _ => sg_name 5 (vs := [5]) (sc_law_script.nd) rfl (by first | exact Or.inl rfl | exact Or.inr rfl) (by decide)) (fun _ _ _ _ _ => sts_nil) (fun _ _ _ _ _ => se_callR (i := 0) c_law_scene hr (by rfl) (sa_cons (se_var 1) (sa_cons (se_var 5) (sa_cons (se_var 4) (sa_cons (se_var 3) sa_nil)))))))) sbs_nil))) (sb_of (se_tup (sa_cons se_non sa_nil)))) sa_nil)))))
theorem ok_has_items {f : Addr} {fd : FuncData} {k : Nat} (F : Fun K "has_items" "has_items" s_has_items f fd) (z_len : mg "len" = none) (z_isinstance : mg "isinstance" = none) (z_tuple : mg "tuple" = none) : FnOk P w K mg base CX0 (k + 1) f fd ["value", "least", "most"] (spF K m_has_items) := by
  refine RT.ok_fn F sc_has_items (fun cdv A outer s H E hr => ?_)
  unfold b_has_items
  exact sss_one (ss_ret (se_and (se_isi (T := .tuple) (by rfl) z_isinstance (sb_var 0) (by rfl) z_tuple v_tuple) (se_one (se_chain od_le od_le (sb_var 1) (sb_of (se_callB cd_len (by rfl) z_len v_len (sbs_cons (sb_var 0) sbs_nil))) (sb_var 2)))))
theorem ok_is_rising {f : Addr} {fd : FuncData} {k : Nat} (F : Fun K "is_rising" "is_rising" s_is_rising f fd) (z_all : mg "all" = none) (z_range : mg "range" = none) (z_len : mg "len" = none) : FnOk P w K mg base CX0 (k + 1) f fd ["values"] (spF K m_is_rising) := by
  refine RT.ok_fn F sc_is_rising (fun cdv A outer s H E hr => ?_)
  unfold b_is_rising
  exact sss_one (ss_ret (se_callB (cd_all rfl) (by rfl) z_all v_all (sbs_cons (sb_of (se_ofX (sx_lc (own := [("at", 1)]) rfl (sc_is_rising.nd) (si_rg1 (by rfl) z_range (se_op od_sub (sb_of (se_callB cd_len (by rfl) z_len v_len (sbs_cons (sb_var 0) sbs_nil))) (sb_of se_int))) (blkOk_by (own := [("at", 1)]) (N := N_is_rising) (sc := defScope s_is_rising) (by decide +kernel)) (fun _ _ _ _ _ => sg_name 1 (vs := [1]) (sc_is_rising.nd) rfl (by first | exact Or.inl rfl | exact Or.inr rfl) (by decide)) (fun _ _ _ _ _ => sts_nil) (fun _ _ _ _ _ => se_cmp (od_ltX hr.units) (sb_of (se_at (hu_of hr) (sb_var 0) (sb_var 1))) (sb_of (se_at (hu_of hr) (sb_var 0) (sb_of (se_op od_addA (sb_var 1) (sb_of se_int))))) (nomark _))))) sbs_nil)))
theorem ok_is_number {f : Addr} {fd : FuncData} {k : Nat} (F : Fun K "is_number" "is_number" s_is_number f fd) (z_isinstance : mg "isinstance" = none) (z_bool : mg "bool" = none) (z_int : mg "int" = none) : FnOk P w K mg base CX0 (k + 1) f fd ["value", "least", "most"] (spF K m_is_number) := by
  refine RT.ok_fn F sc_is_number (fun cdv A outer s H E hr => ?_)
  unfold b_is_number
  exact sss_one (ss_ret (se_and (se_isi (T := .int) (by rfl) z_isinstance (sb_var 0) (by rfl) z_int v_int) (se_and (se_not (se_isi (T := .bool) (by rfl) z_isinstance (sb_var 0) (by rfl) z_bool v_bool)) (se_one (se_chain od_le od_le (sb_var 1) (sb_var 0) (sb_var 2))))))
theorem ok_is_event {f : Addr} {fd : FuncData} {k : Nat} (F : Fun K "is_event" "is_event" s_is_event f fd) (c_is_number : Callee P w K mg base k "is_number" (spF K m_is_number)) (c_has_items : Callee P w K mg base k "has_items" (spF K m_has_items)) {ad_KINDS : Addr} {oc_KINDS : Value} {od_KINDS : Option Addr} {is_KINDS : Array Value} {no_KINDS : Nat} {sl_KINDS : Array (Option Value)} (l_KINDS : K.lookup ad_KINDS = some ⟨oc_KINDS, od_KINDS, .seq is_KINDS no_KINDS, sl_KINDS⟩) (e_KINDS : oc_KINDS = .type "tuple") (n_KINDS : is_KINDS.size ≤ sizeLine) (v_KINDS : Vals ([Str.ofString "hear", Str.ofString "say"].map V.str) is_KINDS.toList) (m_KINDS : mg "KINDS" = some (.ref ad_KINDS)) {t_LAST_WORD : Tok} (k_LAST_WORD : mg "LAST_WORD" = some (.int 5 t_LAST_WORD)) {t_LAST_ACTOR : Tok} (k_LAST_ACTOR : mg "LAST_ACTOR" = some (.int 3 t_LAST_ACTOR)) : FnOk P w K mg base CX0 (k + 1) f fd ["value"] (spF K m_is_event) := by
  refine RT.ok_fn F sc_is_event (fun cdv A outer s H E hr => ?_)
  unfold b_is_event
  exact sss_cons (ss_if (st_not (st_tru (sb_of (se_call c_has_items hr (by rfl) (sa_cons (se_var 0) (sa_cons se_int (sa_cons se_int sa_nil))))))) (sss_one (ss_ret se_bl)) sss_nil)
      (sss_cons (ss_unp (se_var 0) (sg_tup (n := 3) rfl (sgs_cons (sg_name 1 (vs := [1, 2, 3]) (sc_is_event.nd) rfl (by first | exact Or.inl rfl | exact Or.inr rfl) (by decide)) (sgs_cons (sg_name 2 (vs := [1, 2, 3]) (sc_is_event.nd) rfl (by first | exact Or.inl rfl | exact Or.inr rfl) (by decide)) (sgs_cons (sg_name 3 (vs := [1, 2, 3]) (sc_is_event.nd) rfl (by first | exact Or.inl rfl | exact Or.inr rfl) (by decide)) sgs_nil)))))
      (sss_one (ss_ret (se_and (se_inS [Str.ofString "hear", Str.ofString "say"] (by rfl) m_KINDS l_KINDS e_KINDS rfl n_KINDS v_KINDS (sb_var 1)) (se_and (se_call c_is_number hr (by rfl) (sa_cons (se_var 2) (sa_cons se_int (sa_cons (se_glob (v := .int 3) (by rfl) k_LAST_ACTOR ⟨_, rfl⟩ (fun _ _ _ => .int _)) sa_nil)))) (se_one (se_call c_is_number hr (by rfl) (sa_cons (se_var 3) (sa_cons se_int (sa_cons (se_glob (v := .int 5) (by rfl) k_LAST_WORD ⟨_, rfl⟩ (fun _ _ _ => .int _)) sa_nil))))))))))
theorem ok_is_step {f : Addr} {fd : FuncData} {k : Nat} (F : Fun K "is_step" "is_step" s_is_step f fd) (c_is_number : Callee P w K mg base k "is_number" (spF K m_is_number)) (c_is_event : Callee P w K mg base k "is_event" (spF K m_is_event)) (c_has_items : Callee P w K mg base k "has_items" (spF K m_has_items)) : FnOk P w K mg base CX0 (k + 1) f fd ["value", "many"] (spF K m_is_step) := by
  refine RT.ok_fn F sc_is_step (fun cdv A outer s H E hr => ?_)
  unfold b_is_step
  exact sss_one (ss_ret (se_and (se_call c_has_items hr (by rfl) (sa_cons (se_var 0) (sa_cons se_int (sa_cons se_int sa_nil)))) (se_and (se_call c_is_event hr (by rfl) (sa_cons (se_sl (sb_var 0) so_none (so_some se_int)) sa_nil)) (se_one (se_call c_is_number hr (by rfl) (sa_cons (se_at (hu_of hr) (sb_var 0) (sb_of se_int)) (sa_cons se_int (sa_cons (se_op od_sub (sb_var 1) (sb_of se_int)) sa_nil))))))))
theorem ok_is_state {f : Addr} {fd : FuncData} {k : Nat} (F : Fun K "is_state" "is_state" s_is_state f fd) (c_is_rising : Callee P w K mg base k "is_rising" (spF K m_is_rising)) (c_is_step : Callee P w K mg base k "is_step" (spF K m_is_step)) (c_has_items : Callee P w K mg base k "has_items" (spF K m_has_items)) (z_all : mg "all" = none) (z_isinstance : mg "isinstance" = none) (z_tuple : mg "tuple" = none) (z_bool : mg "bool" = none) : FnOk P w K mg base CX0 (k + 1) f fd ["value", "many"] (spF K m_is_state) := by
  refine RT.ok_fn F sc_is_state (fun cdv A outer s H E hr => ?_)
  unfold b_is_state
  exact sss_cons (ss_if (st_not (st_tru (sb_of (se_call c_has_items hr (by rfl) (sa_cons (se_var 0) (sa_cons se_int (sa_cons se_int sa_nil))))))) (sss_one (ss_ret se_bl)) sss_nil)
      (sss_cons (ss_unp (se_var 0) (sg_tup (n := 2) rfl (sgs_cons (sg_name 2 (vs := [2, 3]) (sc_is_state.nd) rfl (by first | exact Or.inl rfl | exact Or.inr rfl) (by decide)) (sgs_cons (sg_name 3 (vs := [2, 3]) (sc_is_state.nd) rfl (by first | exact Or.inl rfl | exact Or.inr rfl) (by decide)) sgs_nil))))
      (sss_cons (ss_if (st_w (sw_or (st_not (st_tru (sb_of (se_isi (T := .bool) (by rfl) z_isinstance (sb_var 2) (by rfl) z_bool v_bool)))) (sw_or1 (st_not (st_tru (sb_of (se_isi (T := .tuple) (by rfl) z_isinstance (sb_var 3) (by rfl) z_tuple v_tuple))))))) (sss_one (ss_ret se_bl)) sss_nil)
      (sss_cons (ss_if (st_not (st_tru (sb_of (se_callB (cd_all rfl) (by rfl) z_all v_all (sbs_cons (sb_of (se_ofX (sx_lc (own := [("step", 4)]) rfl (sc_is_state.nd) (si_seq (se_var 3)) (blkOk_by (own := [("step", 4)]) (N := N_is_state) (sc := defScope s_is_state) (by decide +kernel)) (fun _ _ _ _ _ => sg_name 4 (vs := [4]) (sc_is_state.nd) rfl (by first | exact Or.inl rfl | exact Or.inr rfl) (by decide)) (fun _ _ _ _ _ => sts_nil) (fun _ _ _ _ _ => se_call c_is_step hr (by rfl) (sa_cons (se_var 4) (sa_cons (se_var 1) sa_nil)))))) sbs_nil))))) (sss_one (ss_ret se_bl)) sss_nil)
      (sss_one (ss_ret (se_call c_is_rising hr (by rfl) (sa_cons (se_ofX (sx_lc (own := [("step", 4)]) rfl (sc_is_state.nd) (si_seq (se_var 3)) (blkOk_by (own := [("step", 4)]) (N := N_is_state) (sc := defScope s_is_state) (by decide +kernel)) (fun _ _ _ _ _ => sg_name 4 (vs := [4]) (sc_is_state.nd) rfl (by first | exact Or.inl rfl | exact Or.inr rfl) (by decide)) (fun _ _ _ _ _ => sts_nil) (fun _ _ _ _ _ => se_sl (sb_var 4) so_none (so_some se_int)))) sa_nil)))))))
theorem ok_is_part {f : Addr} {fd : FuncData} {k : Nat} (F : Fun K "is_part" "is_part" s_is_part f fd) (c_is_state : Callee P w K mg base k "is_state" (spF K m_is_state)) (c_has_items : Callee P w K mg base k "has_items" (spF K m_has_items)) (z_all : mg "all" = none) (z_len : mg "len" = none) {t_MOST_STATES : Tok} (k_MOST_STATES : mg "MOST_STATES" = some (.int 255 t_MOST_STATES)) : FnOk P w K mg base CX0 (k + 1) f fd ["value"] (spF K m_is_part) := by
  refine RT.ok_fn F sc_is_part (fun cdv A outer s H E hr => ?_)
  unfold b_is_part
  exact sss_one (ss_ret (se_and (se_call c_has_items hr (by rfl) (sa_cons (se_var 0) (sa_cons se_int (sa_cons (se_glob (v := .int 255) (by rfl) k_MOST_STATES ⟨_, rfl⟩ (fun _ _ _ => .int _)) sa_nil)))) (se_one (se_callB (cd_all rfl) (by rfl) z_all v_all (sbs_cons (sb_of (se_ofX (sx_lc (own := [("state", 1)]) rfl (sc_is_part.nd) (si_seq (se_var 0)) (blkOk_by (own := [("state", 1)]) (N := N_is_part) (sc := defScope s_is_part) (by decide +kernel)) (fun _ _ _ _ _ => sg_name 1 (vs := [1]) (sc_is_part.nd) rfl (by first | exact Or.inl rfl | exact Or.inr rfl) (by decide)) (fun _ _ _ _ _ => sts_nil) (fun _ _ _ _ _ => se_call c_is_state hr (by rfl) (sa_cons (se_var 1) (sa_cons (se_callB cd_len (by rfl) z_len v_len (sbs_cons (sb_var 0) sbs_nil)) sa_nil)))))) sbs_nil)))))
theorem ok_is_other {f : Addr} {fd : FuncData} {k : Nat} (F : Fun K "is_other" "is_other" s_is_other f fd) (c_is_number : Callee P w K mg base k "is_number" (spF K m_is_number)) : FnOk P w K mg base CX0 (k + 1) f fd ["value", "actor", "actors"] (spF K m_is_other) := by
  refine RT.ok_fn F sc_is_other (fun cdv A outer s H E hr => ?_)
  unfold b_is_other
  exact sss_one (ss_ret (se_and (se_call c_is_number hr (by rfl) (sa_cons (se_var 0) (sa_cons se_int (sa_cons (se_op od_sub (sb_var 2) (sb_of se_int)) sa_nil)))) (se_one (se_cmp (od_ne hr.units) (sb_var 0) (sb_var 1) (nomark _)))))
theorem ok_is_part_of {f : Addr} {fd : FuncData} {k : Nat} (F : Fun K "is_part_of" "is_part_of" s_is_part_of f fd) (c_is_other : Callee P w K mg base k "is_other" (spF K m_is_other)) (c_is_part : Callee P w K mg base k "is_part" (spF K m_is_part)) (z_all : mg "all" = none) : FnOk P w K mg base CX0 (k + 1) f fd ["value", "actor", "actors"] (spF K m_is_part_of) := by
  refine RT.ok_fn F sc_is_part_of (fun cdv A outer s H E hr => ?_)
  unfold b_is_part_of
  exact sss_one (ss_ret (se_and (se_call c_is_part hr (by rfl) (sa_cons (se_var 0) sa_nil)) (se_one (se_callB (cd_all rfl) (by rfl) z_all v_all (sbs_cons (sb_of (se_ofX (sx_lc2 (own := [("_", 3), ("steps", 4), ("step", 5)]) (vs1 := [5]) rfl (sc_is_part_of.nd) (si_seq (se_var 0)) (blkOk_by (own := [("_", 3), ("steps", 4), ("step", 5)]) (N := N_is_part_of) (sc := defScope s_is_part_of) (by decide +kernel)) (by decide) (tg_tup (tgs_cons (tg_name 3) (tgs_cons (tg_name 4) tgs_nil))) (fun _ _ _ _ _ => sg_tup (n := 2) rfl (sgs_cons (sg_name 3 (vs := [3, 4, 5]) (sc_is_part_of.nd) rfl (by first | exact Or.inl rfl | exact Or.inr rfl) (by decide)) (sgs_cons (sg_name 4 (vs := [3, 4, 5]) (sc_is_part_of.nd) rfl (by first | exact Or.inl rfl | exact Or.inr rfl) (by decide)) sgs_nil))) (fun _ _ _ _ _ => sts_nil) (fun _ _ _ _ _ => si_seq (se_var 4)) (fun _ _ _ _ _ => sg_name 5 (vs := [5]) (sc_is_part_of.nd) rfl (by first | exact Or.inl rfl | exact Or.inr rfl) (by decide)) (fun _ _ _ _ _ => sts_nil) (fun _ _ _ _ _ => se_call c_is_other hr (by rfl) (sa_cons (se_at (hu_of hr) (sb_var 5) (sb_of se_int)) (sa_cons (se_var 1) (sa_cons (se_var 2) sa_nil))))))) sbs_nil)))))
theorem ok_check_cast {f : Addr} {fd : FuncData} {k : Nat} (F : Fun K "check_cast" "check_cast" s_check_cast f fd) (c_is_part_of : Callee P w K mg base k "is_part_of" (spF K m_is_part_of)) (c_has_items : Callee P w K mg base k "has_items" (spF K m_has_items)) (z_enumerate : mg "enumerate" = none) (z_len : mg "len" = none) {t_MOST_ACTORS : Tok} (k_MOST_ACTORS : mg "MOST_ACTORS" = some (.int 4 t_MOST_ACTORS)) {t_LEAST_ACTORS : Tok} (k_LEAST_ACTORS : mg "LEAST_ACTORS" = some (.int 2 t_LEAST_ACTORS)) : FnOk P w K mg base CX0 (k + 1) f fd ["cast"] (spF K m_check_cast) := by
  refine RT.ok_fn F sc_check_cast (fun cdv A outer s H E hr => ?_)
  unfold b_check_cast
  exact sss_cons (ss_if (st_not (st_tru (sb_of (se_call c_has_items hr (by rfl) (sa_cons (se_var 0) (sa_cons (se_glob (v := .int 2) (by rfl) k_LEAST_ACTORS ⟨_, rfl⟩ (fun _ _ _ => .int _)) (sa_cons (se_glob (v := .int 4) (by rfl) k_MOST_ACTORS ⟨_, rfl⟩ (fun _ _ _ => .int _)) sa_nil))))))) (sss_one ss_no) sss_nil)
      (sss_one (ss_for PassesOwn.never rfl (si_en (by rfl) z_enumerate (se_var 0)) (sg_tup (n := 2) rfl (sgs_cons (sg_name 1 (vs := [1, 2]) (sc_check_cast.nd) rfl (by first | exact Or.inl rfl | exact Or.inr rfl) (by decide)) (sgs_cons (sg_name 2 (vs := [1, 2]) (sc_check_cast.nd) rfl (by first | exact Or.inl rfl | exact Or.inr rfl) (by decide)) sgs_nil))) (sss_one (ss_if (st_not (st_tru (sb_of (se_call c_is_part_of hr (by rfl) (sa_cons (se_var 2) (sa_cons (se_var 1) (sa_cons (se_callB cd_len (by rfl) z_len v_len (sbs_cons (sb_var 0) sbs_nil)) sa_nil))))))) (sss_one ss_no) sss_nil))))
theorem ok_check_actor {f : Addr} {fd : FuncData} {k : Nat} (F : Fun K "check_actor" "check_actor" s_check_actor f fd) (c_is_number : Callee P w K mg base k "is_number" (spF K m_is_number)) : FnOk P w K mg base CX0 (k + 1) f fd ["value", "actors"] (spF K m_check_actor) := by
  refine RT.ok_fn F sc_check_actor (fun cdv A outer s H E hr => ?_)
  unfold b_check_actor
  exact sss_one (ss_if (st_not (st_tru (sb_of (se_call c_is_number hr (by rfl) (sa_cons (se_var 0) (sa_cons se_int (sa_cons (se_op od_sub (sb_var 1) (sb_of se_int)) sa_nil))))))) (sss_one ss_no) sss_nil)
theorem ok_check_part {f : Addr} {fd : FuncData} {k : Nat} (F : Fun K "check_part" "check_part" s_check_part f fd) (c_is_state : Callee P w K mg base k "is_state" (spF K m_is_state)) (c_has_items : Callee P w K mg base k "has_items" (spF K m_has_items)) (z_enumerate : mg "enumerate" = none) (z_len : mg "len" = none) {t_MOST_STATES : Tok} (k_MOST_STATES : mg "MOST_STATES" = some (.int 255 t_MOST_STATES)) : FnOk P w K mg base CX0 (k + 1) f fd ["part"] (spF K m_check_part) := by
  refine RT.ok_fn F sc_check_part (fun cdv A outer s H E hr => ?_)
  unfold b_check_part
  exact sss_cons (ss_if (st_not (st_tru (sb_of (se_call c_has_items hr (by rfl) (sa_cons (se_var 0) (sa_cons se_int (sa_cons (se_glob (v := .int 255) (by rfl) k_MOST_STATES ⟨_, rfl⟩ (fun _ _ _ => .int _)) sa_nil))))))) (sss_one ss_no) sss_nil)
      (sss_one (ss_for PassesOwn.never rfl (si_en (by rfl) z_enumerate (se_var 0)) (sg_tup (n := 2) rfl (sgs_cons (sg_name 1 (vs := [1, 2]) (sc_check_part.nd) rfl (by first | exact Or.inl rfl | exact Or.inr rfl) (by decide)) (sgs_cons (sg_name 2 (vs := [1, 2]) (sc_check_part.nd) rfl (by first | exact Or.inl rfl | exact Or.inr rfl) (by decide)) sgs_nil))) (sss_one (ss_if (st_not (st_tru (sb_of (se_call c_is_state hr (by rfl) (sa_cons (se_var 2) (sa_cons (se_callB cd_len (by rfl) z_len v_len (sbs_cons (sb_var 0) sbs_nil)) sa_nil)))))) (sss_one ss_no) sss_nil))))
theorem ok_replaced {f : Addr} {fd : FuncData} {k : Nat} (F : Fun K "replaced" "replaced" s_replaced f fd) : FnOk P w K mg base CX0 (k + 1) f fd ["values", "at", "value"] (spF K m_replaced) := by
  refine RT.ok_fn F sc_replaced (fun cdv A outer s H E hr => ?_)
  unfold b_replaced
  exact sss_one (ss_ret (se_op od_addA (sb_of (se_op od_addA (sb_of (se_sl (sb_var 0) so_none (so_some (se_var 1)))) (sb_of (se_tup (sa_cons (se_var 2) sa_nil))))) (sb_of (se_sl (sb_var 0) (so_some (se_op od_addA (sb_var 1) (sb_of se_int))) so_none))))
theorem ok_with_part {f : Addr} {fd : FuncData} {k : Nat} (F : Fun K "with_part" "with_part" s_with_part f fd) (c_replaced : Callee P w K mg base k "replaced" (spF K m_replaced)) (c_check_part : Callee P w K mg base k "check_part" (spF K m_check_part)) (c_check_actor : Callee P w K mg base k "check_actor" (spF K m_check_actor)) (c_check_cast : Callee P w K mg base k "check_cast" (spF K m_check_cast)) (z_len : mg "len" = none) : FnOk P w K mg base CX0 (k + 1) f fd ["cast", "actor", "part"] (spF K m_with_part) := by
  refine RT.ok_fn F sc_with_part (fun cdv A outer s H E hr => ?_)
  unfold b_with_part
  exact sss_cons (ss_drop (se_call c_check_cast hr (by rfl) (sa_cons (se_var 0) sa_nil)))
      (sss_cons (ss_drop (se_call c_check_actor hr (by rfl) (sa_cons (se_var 1) (sa_cons (se_callB cd_len (by rfl) z_len v_len (sbs_cons (sb_var 0) sbs_nil)) sa_nil))))
      (sss_cons (ss_drop (se_call c_check_part hr (by rfl) (sa_cons (se_var 2) sa_nil)))
      (sss_one (ss_ret (se_call c_replaced hr (by rfl) (sa_cons (se_var 0) (sa_cons (se_var 1) (sa_cons (se_var 2) sa_nil))))))))
theorem ok_check_number {f : Addr} {fd : FuncData} {k : Nat} (F : Fun K "check_number" "check_number" s_check_number f fd) (c_is_number : Callee P w K mg base k "is_number" (spF K m_is_number)) : FnOk P w K mg base CX0 (k + 1) f fd ["value", "least", "most"] (spF K m_check_number) := by
  refine RT.ok_fn F sc_check_number (fun cdv A outer s H E hr => ?_)
  unfold b_check_number
  exact sss_one (ss_if (st_not (st_tru (sb_of (se_call c_is_number hr (by rfl) (sa_cons (se_var 0) (sa_cons (se_var 1) (sa_cons (se_var 2) sa_nil))))))) (sss_one ss_no) sss_nil)
theorem ok_check_state_of {f : Addr} {fd : FuncData} {k : Nat} (F : Fun K "check_state_of" "check_state_of" s_check_state_of f fd) (c_check_number : Callee P w K mg base k "check_number" (spF K m_check_number)) (c_check_part : Callee P w K mg base k "check_part" (spF K m_check_part)) (z_len : mg "len" = none) : FnOk P w K mg base CX0 (k + 1) f fd ["part", "state"] (spF K m_check_state_of) := by
  refine RT.ok_fn F sc_check_state_of (fun cdv A outer s H E hr => ?_)
  unfold b_check_state_of
  exact sss_cons (ss_drop (se_call c_check_part hr (by rfl) (sa_cons (se_var 0) sa_nil)))
      (sss_one (ss_drop (se_call c_check_number hr (by rfl) (sa_cons (se_var 1) (sa_cons se_int (sa_cons (se_op od_sub (sb_of (se_callB cd_len (by rfl) z_len v_len (sbs_cons (sb_var 0) sbs_nil))) (sb_of se_int)) sa_nil))))))
theorem ok_check_event {f : Addr} {fd : FuncData} {k : Nat} (F : Fun K "check_event" "check_event" s_check_event f fd) (c_is_event : Callee P w K mg base k "is_event" (spF K m_is_event)) : FnOk P w K mg base CX0 (k + 1) f fd ["event"] (spF K m_check_event) := by
  refine RT.ok_fn F sc_check_event (fun cdv A outer s H E hr => ?_)
  unfold b_check_event
  exact sss_one (ss_if (st_not (st_tru (sb_of (se_call c_is_event hr (by rfl) (sa_cons (se_var 0) sa_nil))))) (sss_one ss_no) sss_nil)
theorem ok_behind_events {f : Addr} {fd : FuncData} {k : Nat} (F : Fun K "behind_events" "behind_events" s_behind_events f fd) : FnOk P w K mg base CX0 (k + 1) f fd ["state"] (spF K m_behind_events) := by
  refine RT.ok_fn F sc_behind_events (fun cdv A outer s H E hr => ?_)
  unfold b_behind_events
  exact sss_cons (ss_unp (se_var 0) (sg_tup (n := 2) rfl (sgs_cons (sg_name 1 (vs := [1, 2]) (sc_behind_events.nd) rfl (by first | exact Or.inl rfl | exact Or.inr rfl) (by decide)) (sgs_cons (sg_name 2 (vs := [1, 2]) (sc_behind_events.nd) rfl (by first | exact Or.inl rfl | exact Or.inr rfl) (by decide)) sgs_nil))))
      (sss_one (ss_ret (se_ofX (sx_dcT (hu_of hr) (own := [("step", 3)]) rfl (sc_behind_events.nd) (si_seq (se_var 2)) (blkOk_by (own := [("step", 3)]) (N := N_behind_events) (sc := defScope s_behind_events) (by decide +kernel)) (fun _ _ _ _ _ => sg_name 3 (vs := [3]) (sc_behind_events.nd) rfl (by first | exact Or.inl rfl | exact Or.inr rfl) (by decide)) (fun _ _ _ _ _ => sts_nil) (fun _ _ _ _ _ => se_sl (sb_var 3) so_none (so_some se_int)) (fun _ _ _ _ _ => se_at (hu_of hr) (sb_var 3) (sb_of se_int))))))
theorem okx_without_event {f : Addr} {fd : FuncData} {k : Nat} (F : Fun K "without_event" "without_event" s_without_event f fd) (c_behind_events : Callee P w K mg base k "behind_events" (spF K m_behind_events)) (c_check_event : Callee P w K mg base k "check_event" (spF K m_check_event)) (c_check_state_of : Callee P w K mg base k "check_state_of" (spF K m_check_state_of)) (e_NotMade : ErrK K mg "NotMade") : FnOk P w K mg base (L2.CX P w) (k + 1) f fd ["part", "state", "event"] (spX K mx_without_event) := by
  refine RT.ok_fnX F sc_without_event (fun cdv A outer s H E hr => ?_)
  unfold bx_without_event
  exact rss_cons (ss_drop (se_call c_check_state_of hr (by rfl) (sa_cons (se_var 0) (sa_cons (se_var 1) sa_nil)))) rs_no
      (rss_cons (ss_drop (se_call c_check_event hr (by rfl) (sa_cons (se_var 2) sa_nil))) rs_no
      (rss_cons (ss_unp (se_at (hu_of hr) (sb_var 0) (sb_var 1)) (sg_tup (n := 2) rfl (sgs_cons (sg_name 3 (vs := [3, 4]) (sc_without_event.nd) rfl (by first | exact Or.inl rfl | exact Or.inr rfl) (by decide)) (sgs_cons (sg_name 4 (vs := [3, 4]) (sc_without_event.nd) rfl (by first | exact Or.inl rfl | exact Or.inr rfl) (by decide)) sgs_nil)))) rs_no
      (rss_head (rs_if (st_notInA (room65 hr) (sb_var 2) (sb_of (se_call c_behind_events hr (by rfl) (sa_cons (se_at (hu_of hr) (sb_var 0) (sb_var 1)) sa_nil)))) (rss_head (rs_raise e_NotMade rfl (takes_of rfl rfl rfl rfl) (by rfl))) rss_no))))
theorem ok_without_event {f : Addr} {fd : FuncData} {k : Nat} (F : Fun K "without_event" "without_event" s_without_event f fd) (c_replaced : Callee P w K mg base k "replaced" (spF K m_replaced)) (c_behind_events : Callee P w K mg base k "behind_events" (spF K m_behind_events)) (c_check_event : Callee P w K mg base k "check_event" (spF K m_check_event)) (c_check_state_of : Callee P w K mg base k "check_state_of" (spF K m_check_state_of)) (z_tuple : mg "tuple" = none) : FnOk P w K mg base CX0 (k + 1) f fd ["part", "state", "event"] (spF K m_without_event) := by
  refine RT.ok_fn F sc_without_event (fun cdv A outer s H E hr => ?_)
  unfold b_without_event
  exact sss_cons (ss_drop (se_call c_check_state_of hr (by rfl) (sa_cons (se_var 0) (sa_cons (se_var 1) sa_nil))))
      (sss_cons (ss_drop (se_call c_check_event hr (by rfl) (sa_cons (se_var 2) sa_nil)))
      (sss_cons (ss_unp (se_at (hu_of hr) (sb_var 0) (sb_var 1)) (sg_tup (n := 2) rfl (sgs_cons (sg_name 3 (vs := [3, 4]) (sc_without_event.nd) rfl (by first | exact Or.inl rfl | exact Or.inr rfl) (by decide)) (sgs_cons (sg_name 4 (vs := [3, 4]) (sc_without_event.nd) rfl (by first | exact Or.inl rfl | exact Or.inr rfl) (by decide)) sgs_nil))))
      (sss_cons (ss_if (st_notInA (room65 hr) (sb_var 2) (sb_of (se_call c_behind_events hr (by rfl) (sa_cons (se_at (hu_of hr) (sb_var 0) (sb_var 1)) sa_nil)))) (sss_one ss_no) sss_nil)
      (sss_one (ss_ret (se_call c_replaced hr (by rfl) (sa_cons (se_var 0) (sa_cons (se_var 1) (sa_cons (se_tup (sa_cons (se_var 3) (sa_cons (se_callTy cd_tuple (by rfl) z_tuple v_tuple (sbs_cons (sb_of (se_ofX (sx_lc (own := [("step", 5)]) rfl (sc_without_event.nd) (si_seq (se_var 4)) (blkOk_by (own := [("step", 5)]) (N := N_without_event) (sc := defScope s_without_event) (by decide +kernel)) (fun _ _ _ _ _ => sg_name 5 (vs := [5]) (sc_without_event.nd) rfl (by first | exact Or.inl rfl | exact Or.inr rfl) (by decide)) (fun _ _ _ _ _ => sts_one (st_cmp (od_ne hr.units) (sb_of (se_sl (sb_var 5) so_none (so_some se_int))) (sb_var 2) (nomark _))) (fun _ _ _ _ _ => se_var 5)))) sbs_nil)) sa_nil))) sa_nil)))))))))
theorem ok_resting {f : Addr} {fd : FuncData} {k : Nat} (F : Fun K "resting" "resting" s_resting f fd) (c_replaced : Callee P w K mg base k "replaced" (spF K m_replaced)) (c_check_state_of : Callee P w K mg base k "check_state_of" (spF K m_check_state_of)) (z_isinstance : mg "isinstance" = none) (z_bool : mg "bool" = none) : FnOk P w K mg base CX0 (k + 1) f fd ["part", "state", "rest"] (spF K m_resting) := by
  refine RT.ok_fn F sc_resting (fun cdv A outer s H E hr => ?_)
  unfold b_resting
  exact sss_cons (ss_drop (se_call c_check_state_of hr (by rfl) (sa_cons (se_var 0) (sa_cons (se_var 1) sa_nil))))
      (sss_cons (ss_if (st_not (st_tru (sb_of (se_isi (T := .bool) (by rfl) z_isinstance (sb_var 2) (by rfl) z_bool v_bool)))) (sss_one ss_no) sss_nil)
      (sss_cons (ss_unp (se_at (hu_of hr) (sb_var 0) (sb_var 1)) (sg_tup (n := 2) rfl (sgs_cons (sg_name 3 (vs := [3, 4]) (sc_resting.nd) rfl (by first | exact Or.inl rfl | exact Or.inr rfl) (by decide)) (sgs_cons (sg_name 4 (vs := [3, 4]) (sc_resting.nd) rfl (by first | exact Or.inl rfl | exact Or.inr rfl) (by decide)) sgs_nil))))
      (sss_one (ss_ret (se_call c_replaced hr (by rfl) (sa_cons (se_var 0) (sa_cons (se_var 1) (sa_cons (se_tup (sa_cons (se_var 2) (sa_cons (se_var 4) sa_nil))) sa_nil))))))))
theorem okx_plus_event {f : Addr} {fd : FuncData} {k : Nat} (F : Fun K "plus_event" "plus_event" s_plus_event f fd) (c_behind_events : Callee P w K mg base k "behind_events" (spF K m_behind_events)) (c_check_number : Callee P w K mg base k "check_number" (spF K m_check_number)) (c_check_event : Callee P w K mg base k "check_event" (spF K m_check_event)) (c_check_state_of : Callee P w K mg base k "check_state_of" (spF K m_check_state_of)) (z_len : mg "len" = none) (e_NotMade : ErrK K mg "NotMade") : FnOk P w K mg base (L2.CX P w) (k + 1) f fd ["part", "state", "event", "there"] (spX K mx_plus_event) := by
  refine RT.ok_fnX F sc_plus_event (fun cdv A outer s H E hr => ?_)
  unfold bx_plus_event
  exact rss_cons (ss_drop (se_call c_check_state_of hr (by rfl) (sa_cons (se_var 0) (sa_cons (se_var 1) sa_nil)))) rs_no
      (rss_cons (ss_drop (se_call c_check_event hr (by rfl) (sa_cons (se_var 2) sa_nil))) rs_no
      (rss_cons (ss_drop (se_call c_check_number hr (by rfl) (sa_cons (se_var 3) (sa_cons se_int (sa_cons (se_op od_sub (sb_of (se_callB cd_len (by rfl) z_len v_len (sbs_cons (sb_var 0) sbs_nil))) (sb_of se_int)) sa_nil))))) rs_no
      (rss_cons (ss_unp (se_at (hu_of hr) (sb_var 0) (sb_var 1)) (sg_tup (n := 2) rfl (sgs_cons (sg_name 4 (vs := [4, 5]) (sc_plus_event.nd) rfl (by first | exact Or.inl rfl | exact Or.inr rfl) (by decide)) (sgs_cons (sg_name 5 (vs := [4, 5]) (sc_plus_event.nd) rfl (by first | exact Or.inl rfl | exact Or.inr rfl) (by decide)) sgs_nil)))) rs_no
      (rss_head (rs_if (st_inA (room65 hr) (sb_var 2) (sb_of (se_call c_behind_events hr (by rfl) (sa_cons (se_at (hu_of hr) (sb_var 0) (sb_var 1)) sa_nil)))) (rss_head (rs_raise e_NotMade rfl (takes_of rfl rfl rfl rfl) (by rfl))) rss_no)))))
theorem ok_plus_event {f : Addr} {fd : FuncData} {k : Nat} (F : Fun K "plus_event" "plus_event" s_plus_event f fd) (c_replaced : Callee P w K mg base k "replaced" (spF K m_replaced)) (c_behind_events : Callee P w K mg base k "behind_events" (spF K m_behind_events)) (c_check_number : Callee P w K mg base k "check_number" (spF K m_check_number)) (c_check_event : Callee P w K mg base k "check_event" (spF K m_check_event)) (c_check_state_of : Callee P w K mg base k "check_state_of" (spF K m_check_state_of)) (z_tuple : mg "tuple" = none) (z_sorted : mg "sorted" = none) (z_len : mg "len" = none) : FnOk P w K mg base CX0 (k + 1) f fd ["part", "state", "event", "there"] (spF K m_plus_event) := by
  refine RT.ok_fn F sc_plus_event (fun cdv A outer s H E hr => ?_)
  unfold b_plus_event
  exact sss_cons (ss_drop (se_call c_check_state_of hr (by rfl) (sa_cons (se_var 0) (sa_cons (se_var 1) sa_nil))))
      (sss_cons (ss_drop (se_call c_check_event hr (by rfl) (sa_cons (se_var 2) sa_nil)))
      (sss_cons (ss_drop (se_call c_check_number hr (by rfl) (sa_cons (se_var 3) (sa_cons se_int (sa_cons (se_op od_sub (sb_of (se_callB cd_len (by rfl) z_len v_len (sbs_cons (sb_var 0) sbs_nil))) (sb_of se_int)) sa_nil)))))
      (sss_cons (ss_unp (se_at (hu_of hr) (sb_var 0) (sb_var 1)) (sg_tup (n := 2) rfl (sgs_cons (sg_name 4 (vs := [4, 5]) (sc_plus_event.nd) rfl (by first | exact Or.inl rfl | exact Or.inr rfl) (by decide)) (sgs_cons (sg_name 5 (vs := [4, 5]) (sc_plus_event.nd) rfl (by first | exact Or.inl rfl | exact Or.inr rfl) (by decide)) sgs_nil))))
      (sss_cons (ss_if (st_inA (room65 hr) (sb_var 2) (sb_of (se_call c_behind_events hr (by rfl) (sa_cons (se_at (hu_of hr) (sb_var 0) (sb_var 1)) sa_nil)))) (sss_one ss_no) sss_nil)
      (sss_one (ss_ret (se_call c_replaced hr (by rfl) (sa_cons (se_var 0) (sa_cons (se_var 1) (sa_cons (se_tup (sa_cons (se_var 4) (sa_cons (se_callTy cd_tuple (by rfl) z_tuple v_tuple (sbs_cons (sb_of (se_callB (cd_sortV (room66 hr)) (by rfl) z_sorted v_sorted (sbs_cons (sb_of (se_op od_addA (sb_var 5) (sb_of (se_tup (sa_cons (se_op od_addA (sb_var 2) (sb_of (se_tup (sa_cons (se_var 3) sa_nil)))) sa_nil))))) sbs_nil))) sbs_nil)) sa_nil))) sa_nil))))))))))
theorem ok_law {f : Addr} {fd : FuncData} {k : Nat} (F : Fun K "law" "law" s_law f fd) (c_law_alike : Callee P w K mg base (k + 2) "_law_alike" (spF K (m_law_alike 9))) (c_with_part : Callee P w K mg base (k + 2) "with_part" (spF K m_with_part)) (c_law_taken : Callee P w K mg base (k + 2) "_law_taken" (spR K m_law_taken)) (c_law_cast : Callee P w K mg base (k + 2) "_law_cast" (spF K m_law_cast)) (c_law_script : Callee P w K mg base (k + 2) "_law_script" (spR K m_law_script)) (c_without_event : Callee P w K mg base (k + 2) "without_event" (spF K m_without_event)) (c_plus_event : Callee P w K mg base (k + 2) "plus_event" (spF K m_plus_event)) (c_resting : Callee P w K mg base (k + 2) "resting" (spF K m_resting)) (c_law_pick : Callee P w K mg base (k + 2) "_law_pick" (spR K m_law_pick)) (c_law_part : Callee P w K mg base (k + 2) "_law_part" (spR K m_law_part)) (cl_plus_event : Callee P w K mg base k "plus_event" (spF K m_plus_event)) (cl_without_event : Callee P w K mg base k "without_event" (spF K m_without_event)) (cx_plus_event : CalleeX P w K mg base k "plus_event" (spX K mx_plus_event)) (cx_without_event : CalleeX P w K mg base k "without_event" (spX K mx_without_event)) {CS CN : Addr} (T_law_told : Teller K mg "_law_told" (TTA K CS CN (Str.ofString "other"))) (hL_law_told : ∀ p ∈ LE, ErrA K CS CN p.1 p.2) {cc_law pp_law : Addr} (a_law : PySem.W.nsIn K mainGlobals "law" = some (some (.ref f))) (ti_law : PySem.W.tabIn K "law" = some (cc_law, pp_law)) (tb_law : LamX.TabB base mg cc_law pp_law) (z_len : mg "len" = none) (z_isinstance : mg "isinstance" = none) (z_tuple : mg "tuple" = none) (z_sorted : mg "sorted" = none) : FnOk P w K mg base CX0 (k + 3) f fd ["script"] (spLaw K b_law 13 10121) := by
  refine RT.ok_lawM (k := k + 2) F sc_law rfl a_law ti_law (fun A outer s H E => ps_set (i := 1) sc_law.nd rfl (by first | exact Or.inl rfl | exact Or.inr rfl) (pe_lst (pa_cons (pv 0) (pa_cons pe_int (pa_cons pe_int (pa_cons pe_int pa_nil)))))) (fun A outer s H E hr => ?_)
  unfold b_law
  exact sss_cons (ss_set (i := 11) (sc_law.nd) rfl (by first | exact Or.inl rfl | exact Or.inr rfl) (sx_of (se_callR (i := 1) c_law_part hr (by rfl) (sa_cons se_int (sa_cons se_bl sa_nil)))))
      (sss_cons (ss_parT (is := [12, 13]) rfl (sc_law.nd) (.cons rfl (by first | exact Or.inl rfl | exact Or.inr rfl) (Or.inl rfl) rfl (.cons rfl (by first | exact Or.inl rfl | exact Or.inr rfl) (Or.inl rfl) rfl .nil)) (sxs_cons (sx_of (se_callR (i := 1) c_law_taken hr (by rfl) (sa_cons (se_callB cd_len (by rfl) z_len v_len (sbs_cons (sb_var 11) sbs_nil)) sa_nil))) (sxs_cons (sx_of (se_callR (i := 1) c_law_taken hr (by rfl) (sa_cons (se_callB cd_len (by rfl) z_len v_len (sbs_cons (sb_var 11) sbs_nil)) sa_nil))) sxs_nil)) (by decide) rfl rfl rfl rfl rfl)
      (sss_cons (ss_set (i := 10) (sc_law.nd) rfl (by first | exact Or.inl rfl | exact Or.inr rfl) (sx_of (se_tup (sa_cons (se_callR (i := 1) c_law_pick hr (by rfl) (sa_cons (se_lst (sa_cons se_str (sa_cons se_str sa_nil))) sa_nil)) (sa_cons (se_op od_addA (sb_of se_int) (sb_of (se_callR (i := 1) c_law_taken hr (by rfl) (sa_cons se_int sa_nil)))) (sa_cons (se_callR (i := 1) c_law_taken hr (by rfl) (sa_cons se_int sa_nil)) sa_nil))))))
      (sss_cons (ss_unp (se_at (hu_of hr) (sb_var 11) (sb_var 12)) (sg_tup (n := 2) rfl (sgs_cons (sg_name 2 (vs := [2, 3]) (sc_law.nd) rfl (by first | exact Or.inl rfl | exact Or.inr rfl) (by decide)) (sgs_cons (sg_name 3 (vs := [2, 3]) (sc_law.nd) rfl (by first | exact Or.inl rfl | exact Or.inr rfl) (by decide)) sgs_nil))))
      (sss_cons (ss_set (i := 4) (sc_law.nd) rfl (by first | exact Or.inl rfl | exact Or.inr rfl) (sx_of (se_inA (room65 hr) (sb_var 10) (sb_of (se_ofX (sx_lc (own := [("step", 14)]) rfl (sc_law.nd) (si_seq (se_var 3)) (blkOk_by (own := [("step", 14)]) (N := N_law) (sc := defScope s_law) (by decide +kernel)) (fun _ _ _ _ _ => sg_name 14 (vs := [14]) (sc_law.nd) rfl (by first | exact Or.inl rfl | exact Or.inr rfl) (by decide)) (fun _ _ _ _ _ => sts_nil) (fun _ _ _ _ _ => se_sl (sb_var 14) so_none (so_some se_int))))))))
      (sss_cons (ss_set (i := 5) (sc_law.nd) rfl (by first | exact Or.inl rfl | exact Or.inr rfl) (sx_of (se_op od_addA (sb_of (se_op od_addA (sb_of (se_sl (sb_var 11) so_none (so_some (se_var 12)))) (sb_of (se_tup (sa_cons (se_tup (sa_cons (se_var 2) (sa_cons (se_callTy cd_tuple (by rfl) z_tuple v_tuple (sbs_cons (sb_of (se_ofX (sx_lc (own := [("step", 14)]) rfl (sc_law.nd) (si_seq (se_var 3)) (blkOk_by (own := [("step", 14)]) (N := N_law) (sc := defScope s_law) (by decide +kernel)) (fun _ _ _ _ _ => sg_name 14 (vs := [14]) (sc_law.nd) rfl (by first | exact Or.inl rfl | exact Or.inr rfl) (by decide)) (fun _ _ _ _ _ => sts_one (st_cmp (od_ne hr.units) (sb_of (se_sl (sb_var 14) so_none (so_some se_int))) (sb_var 10) (nomark _))) (fun _ _ _ _ _ => se_var 14)))) sbs_nil)) sa_nil))) sa_nil))))) (sb_of (se_sl (sb_var 11) (so_some (se_op od_addA (sb_var 12) (sb_of se_int))) so_none)))))
      (sss_cons (ss_if (st_not (st_tru (sb_of (se_call c_law_alike hr (by rfl) (sa_cons (se_toldA T_law_told hL_law_told hr (by rfl) tb_law rfl ti_law (by decide) rfl (LamX.lamS_by (show LamX.lamSB (defScope s_law) _ = true by decide +kernel)) rfl (fun _ _ _ _ _ => rfl) (fun _ _ _ _ _ _ _ hr => se_call cl_without_event hr (by rfl) (sa_cons (se_var 11) (sa_cons (se_var 12) (sa_cons (se_var 10) sa_nil)))) (fun _ _ _ _ _ _ _ hr => re_call cx_without_event (takes_of rfl rfl rfl rfl) hr (by rfl) (sa_cons (se_var 11) (sa_cons (se_var 12) (sa_cons (se_var 10) sa_nil))))) (sa_cons (se_if (st_tru (sb_var 4)) (se_var 5) se_non) sa_nil)))))) (sss_one (ss_ret se_bl)) sss_nil)
      (sss_cons (ss_set (i := 6) (sc_law.nd) rfl (by first | exact Or.inl rfl | exact Or.inr rfl) (sx_of (se_op od_addA (sb_of (se_op od_addA (sb_of (se_sl (sb_var 11) so_none (so_some (se_var 12)))) (sb_of (se_tup (sa_cons (se_tup (sa_cons (se_var 2) (sa_cons (se_callTy cd_tuple (by rfl) z_tuple v_tuple (sbs_cons (sb_of (se_callB (cd_sortV (room66 hr)) (by rfl) z_sorted v_sorted (sbs_cons (sb_of (se_op od_addA (sb_var 3) (sb_of (se_tup (sa_cons (se_op od_addA (sb_var 10) (sb_of (se_tup (sa_cons (se_var 13) sa_nil)))) sa_nil))))) sbs_nil))) sbs_nil)) sa_nil))) sa_nil))))) (sb_of (se_sl (sb_var 11) (so_some (se_op od_addA (sb_var 12) (sb_of se_int))) so_none)))))
      (sss_cons (ss_if (st_not (st_tru (sb_of (se_call c_law_alike hr (by rfl) (sa_cons (se_toldA T_law_told hL_law_told hr (by rfl) tb_law rfl ti_law (by decide) rfl (LamX.lamS_by (show LamX.lamSB (defScope s_law) _ = true by decide +kernel)) rfl (fun _ _ _ _ _ => rfl) (fun _ _ _ _ _ _ _ hr => se_call cl_plus_event hr (by rfl) (sa_cons (se_var 11) (sa_cons (se_var 12) (sa_cons (se_var 10) (sa_cons (se_var 13) sa_nil))))) (fun _ _ _ _ _ _ _ hr => re_call cx_plus_event (takes_of rfl rfl rfl rfl) hr (by rfl) (sa_cons (se_var 11) (sa_cons (se_var 12) (sa_cons (se_var 10) (sa_cons (se_var 13) sa_nil)))))) (sa_cons (se_if (st_tru (sb_var 4)) se_non (se_var 6)) sa_nil)))))) (sss_one (ss_ret se_bl)) sss_nil)
      (sss_cons (ss_for PassesOwn.never rfl (si_seq (se_lst (sa_cons se_bl (sa_cons se_bl sa_nil)))) (sg_name 7 (vs := [7]) (sc_law.nd) rfl (by first | exact Or.inl rfl | exact Or.inr rfl) (by decide)) (sss_one (ss_if (st_not (st_tru (sb_of (se_call c_law_alike hr (by rfl) (sa_cons (se_call c_resting hr (by rfl) (sa_cons (se_var 11) (sa_cons (se_var 12) (sa_cons (se_var 7) sa_nil)))) (sa_cons (se_op od_addA (sb_of (se_op od_addA (sb_of (se_sl (sb_var 11) so_none (so_some (se_var 12)))) (sb_of (se_tup (sa_cons (se_tup (sa_cons (se_var 7) (sa_cons (se_var 3) sa_nil))) sa_nil))))) (sb_of (se_sl (sb_var 11) (so_some (se_op od_addA (sb_var 12) (sb_of se_int))) so_none))) sa_nil)))))) (sss_one (ss_ret se_bl)) sss_nil)))
      (sss_cons (ss_if (st_w (sw_and (st_not (st_tru (sb_var 4))) (sw_and1 (st_cmp (od_ne hr.units) (sb_of (se_call c_without_event hr (by rfl) (sa_cons (se_call c_plus_event hr (by rfl) (sa_cons (se_var 11) (sa_cons (se_var 12) (sa_cons (se_var 10) (sa_cons (se_var 13) sa_nil))))) (sa_cons (se_var 12) (sa_cons (se_var 10) sa_nil))))) (sb_var 11) (nomark _))))) (sss_one (ss_ret se_bl)) sss_nil)
      (sss_cons (ss_set (i := 8) (sc_law.nd) rfl (by first | exact Or.inl rfl | exact Or.inr rfl) (sx_of (se_call c_law_cast hr (by rfl) (sa_cons (se_callR (i := 1) c_law_script hr (by rfl) (sa_cons (se_op od_addA (sb_of se_int) (sb_of (se_callR (i := 1) c_law_taken hr (by rfl) (sa_cons se_int sa_nil)))) (sa_cons se_int (sa_cons se_bl sa_nil)))) sa_nil))))
      (sss_cons (ss_set (i := 9) (sc_law.nd) rfl (by first | exact Or.inl rfl | exact Or.inr rfl) (sx_of (se_callR (i := 1) c_law_taken hr (by rfl) (sa_cons (se_callB cd_len (by rfl) z_len v_len (sbs_cons (sb_var 8) sbs_nil)) sa_nil))))
      (sss_one (ss_ret (se_call c_law_alike hr (by rfl) (sa_cons (se_call c_with_part hr (by rfl) (sa_cons (se_var 8) (sa_cons (se_var 9) (sa_cons (se_var 11) sa_nil)))) (sa_cons (se_op od_addA (sb_of (se_op od_addA (sb_of (se_sl (sb_var 8) so_none (so_some (se_var 9)))) (sb_of (se_tup (sa_cons (se_var 11) sa_nil))))) (sb_of (se_sl (sb_var 8) (so_some (se_op od_addA (sb_var 9) (sb_of se_int))) so_none))) sa_nil)))))))))))))))))
end
end Lw
namespace Lw
open PySem PySem.Spec PyProof.Rows L2 RT
def b_talks_from : FS :=
    sSeq (sIf (fTst (fBin gIsN (fBor 0) (fC .none))) (sRet (fLst aNil)) sNil)
    (sSeq (sUnp (fVar 0) (gtTup 2 (gtCons (gtName 1) (gtCons (gtName 2) gtNil))))
    (sRet (fOfX (xLc (fSeq (fVar 2)) (gtTup 3 (gtCons (gtName 3) (gtCons (gtName 4) (gtCons (gtName 5) gtNil)))) tYesF (fTup (aCons (fTup (aCons (fVar 1) (aCons (fVar 3) (aCons (fVar 4) aNil)))) (aCons (fVar 5) aNil))) [3, 4, 5]))))
def m_talks_from : List D → Option D := mkF 6 1 b_talks_from
def b_talk_web : FS :=
    sRet (fOfX (xLc (fSeq (fBin gAt (fBor 0) (fC (.int 1)))) (gtName 1) tYesF (fCall m_talks_from (aCons (fVar 1) aNil)) [1]))
def m_talk_web : List D → Option D := mkF 2 1 b_talk_web
def b_event_of : FS :=
    sSeq (sUnp (fVar 0) (gtTup 3 (gtCons (gtName 2) (gtCons (gtName 3) (gtCons (gtName 4) gtNil)))))
    (sSeq (sIf (fTst (fBin gEq (fBor 1) (fBor 2))) (sRet (fTup (aCons (fC (.str (Str.ofString "say"))) (aCons (fVar 3) (aCons (fVar 4) aNil))))) sNil)
    (sSeq (sIf (fTst (fBin gEq (fBor 1) (fBor 3))) (sRet (fTup (aCons (fC (.str (Str.ofString "hear"))) (aCons (fVar 2) (aCons (fVar 4) aNil))))) sNil)
    (sRet (fC .none))))
def m_event_of : List D → Option D := mkF 5 2 b_event_of
def b_coming : FS :=
    sSeq (sSet 2 (xLst (aCons (fVar 1) aNil)))
    (sSeq (sSet 3 (xDict1 (fVar 1) (fC (.bool true))))
    (sSeq (sSet 4 (xVal (fC (.int 0))))
    (sSeq (whL (fTst (fBin gLtX (fBor 4) (fCall gLen (aCons (fBor 2) aNil)))) (sSeq (sSet 5 (xVal (fBin gAt (fBor 2) (fBor 4))))
    (sSeq (sFor (fSeq (fBin gAt (fBor 0) (fBor 5))) (gtTup 2 (gtCons (gtName 6) (gtCons (gtName 7) gtNil))) (sIf (fTst (fBin gNotInA (fBor 7) (fBor 3))) (sSeq (sDPut 3 (fVar 7) (fC (.bool true)))
    (sApp 2 (fVar 7))) sNil))
    (sAug 4 (fC (.int 1))))) 1000)
    (sFrz 2 (sRet (fVar 2))))))
def m_coming : List D → Option D := mkF 8 2 b_coming
def b_joined_sets : FS :=
    sSeq (sSet 2 (xVal (fOfX (xLc (fSeq (fVar 0)) (gtName 3) tYesF (fOfX (xLc (fSeq (fVar 3)) (gtTup 2 (gtCons (gtName 5) (gtCons (gtName 6) gtNil))) (fTst (fBin gIsN (fCall m_event_of (aCons (fVar 5) (aCons (fVar 1) aNil))) (fC .none))) (fTup (aCons (fVar 5) (aCons (fVar 6) aNil))) [5, 6])) [3]))))
    (sRet (fOfX (xLc (fRg1 (fCall gLen (aCons (fBor 2) aNil))) (gtName 4) tYesF (fCall gTupOf (aCons (fCall gSortX (aCons (fCall m_coming (aCons (fVar 2) (aCons (fVar 4) aNil))) aNil)) aNil)) [4])))
def m_joined_sets : List D → Option D := mkF 7 2 b_joined_sets
def b_sets_behind : FS :=
    sSeq (sNdD 4)
    (sSeq (sFor (fSeq (fVar 2)) (gtName 5) (sFor (fSeq (fBin gAt (fBor 0) (fBor 5))) (gtTup 2 (gtCons (gtName 6) (gtCons (gtName 7) gtNil))) (sSeq (sSet 8 (xVal (fCall m_event_of (aCons (fVar 6) (aCons (fVar 3) aNil)))))
    (sIf (fTst (fBin gNotN (fBor 8) (fC .none))) (sSdExt 4 (fVar 8) (fBin gAt (fBor 1) (fBor 7))) sNil))))
    (sFrzN 4 (sRet (fOfX (xLc (fSeq (fCall gSortY (aCons (fBor 4) aNil))) (gtName 8) tYesF (fTup (aCons (fVar 8) (aCons (fCall gTupOf (aCons (fSrtS (nSetL (fBin gAt (fBor 4) (fBor 8)))) aNil)) aNil))) [8])))))
def m_sets_behind : List D → Option D := mkF 9 4 b_sets_behind
def b_set_web : FS :=
    sSeq (sSet 3 (xVal (fCall m_talk_web (aCons (fVar 0) aNil))))
    (sSeq (sSet 2 (xVal (fCall m_joined_sets (aCons (fVar 3) (aCons (fVar 1) aNil)))))
    (sRet (fLam gGrown (fBin gAt (fBor 2) (fC (.int 0))) (fC .none) [1, 2, 3] 4 1 (fCall m_sets_behind (aCons (fVar 3) (aCons (fVar 2) (aCons (fVar 0) (aCons (fVar 1) aNil))))))))
def m_set_web : List D → Option D := mkF 4 2 b_set_web
end Lw
namespace Bf6
def adds (acc ts : List Int) : List Int := ts.foldl (fun acc t => if t ∈ acc then acc else acc ++ [t]) acc
variable {G : Int → List Int} {v : Int}
structure Web (m : Nat) (G : Int → List Int) : Prop where
  le : m ≤ 8
  to : ∀ u : Int, 0 ≤ u ∧ u < m → ∀ t ∈ G u, 0 ≤ t ∧ t < m
variable {m : Nat}
end Bf6
namespace Wb6
abbrev Web (μ : Type) := List (List (μ × Int))
variable {μ : Type}
def stp (w : Web μ) (v : Int) : List (μ × Int) := (w[v.toNat]?).getD []
def cnt (w : Web μ) (gs : List Int) : Nat → Int → Int
  | 0, v => if v ∈ gs then 1 else 0
  | k + 1, v => ((stp w v).map fun p => cnt w gs k p.2).sum
def nxt (w : Web μ) (r : List μ × Int) : List (List μ × Int) := (stp w r.2).map fun p => (r.1 ++ [p.1], p.2)
def lev (w : Web μ) : Nat → List (List μ × Int)
  | 0 => [([], 0)]
  | k + 1 => (lev w k).flatMap (nxt w)
structure WOk (w : Web μ) : Prop where
  n : 1 ≤ w.length ∧ w.length ≤ 8
  k : ∀ st ∈ w, st.length ≤ 3
  to : ∀ st ∈ w, ∀ p ∈ st, 0 ≤ p.2 ∧ p.2 < (w.length : Int)
variable {w : Web μ} {gs : List Int}
theorem stp_mem (h : WOk w) {v : Int} (h0 : 0 ≤ v) (h1 : v < w.length) : w[v.toNat]? = some (stp w v) ∧ stp w v ∈ w := by
  have hl : v.toNat < w.length := by omega
  have e : w[v.toNat]? = some w[v.toNat] := List.getElem?_eq_getElem hl
  have e2 : stp w v = w[v.toNat] := by unfold stp; rw [e]; rfl
  rw [e2]; exact ⟨e, List.getElem_mem hl⟩
def kp (w : Web μ) (gs : List Int) (k i : Nat) : List (List μ × Int) := (lev w i).filter fun r => cnt w gs k r.2 != 0
theorem flat_le {α β : Type} {f : α → List β} {b : Nat} : ∀ l : List α, (∀ a ∈ l, (f a).length ≤ b) → (l.flatMap f).length ≤ l.length * b
  | [], _ => by simp
  | a :: l, h => by
    have h1 := flat_le l fun x hx => h x (by simp [hx])
    have h2 := h a (by simp)
    rw [List.flatMap_cons, List.length_append, List.length_cons, Nat.succ_mul]
    omega
theorem stp_len (h : WOk w) (v : Int) : (stp w v).length ≤ 3 := by
  unfold stp
  cases e : w[v.toNat]? with
  | none => simp
  | some s => exact h.k s (List.mem_of_getElem? e)
theorem stp_to (h : WOk w) {v : Int} : ∀ p ∈ stp w v, 0 ≤ p.2 ∧ p.2 < (w.length : Int) := by
  intro p hp
  unfold stp at hp
  cases e : w[v.toNat]? with
  | none => rw [e] at hp; simp at hp
  | some s => rw [e] at hp; exact h.to s (List.mem_of_getElem? e) p hp
/-! order of rows -/
variable {lt : μ → μ → Prop}
/-! the rows in the order of coming -/
def G (w : Web μ) (v : Int) : List Int := (stp w v).map (·.2)
theorem web_ok (h : WOk w) : Bf6.Web w.length (G w) where
  le := h.n.2
  to := by
    intro u hu t ht
    obtain ⟨p, hp, rfl⟩ := List.mem_map.mp ht
    exact stp_to h p hp
end Wb6
namespace Lp
open Lw
open PySem RT
theorem compL_gen {α : Type} {gt : FGt} {t : FT} {fe : FE} {env : FEn} {x : FRow} (enc : α → D) (p : α → Bool) (g : α → D) : ∀ (l : List α), (∀ a ∈ l, ∃ e, gt (enc a) env = some e ∧ t e x = some (p a, x) ∧ (p a = true → fe e x = some (g a, x))) → compL gt t fe env (l.map enc) x = some ((l.filter p).map g, x)
  | [], _ => rfl
  | a :: l, h => by
    obtain ⟨e, h1, h2, h3⟩ := h a (by simp)
    have ih := compL_gen enc p g l fun b hb => h b (by simp [hb])
    cases hp : p a with
    | true => simp [compL, h1, h2, h3 hp, hp, ih]
    | false => simp [compL, h1, h2, hp, ih]
theorem compL_map {α : Type} {gt : FGt} {t : FT} {fe : FE} {env : FEn} {x : FRow} (enc : α → D) (g : α → D) (l : List α) (h : ∀ a ∈ l, ∃ e, gt (enc a) env = some e ∧ t e x = some (true, x) ∧ fe e x = some (g a, x)) : compL gt t fe env (l.map enc) x = some (l.map g, x) := by
  rw [compL_gen enc (fun _ => true) g l fun a ha => by obtain ⟨e, h1, h2, h3⟩ := h a ha; exact ⟨e, h1, h2, fun _ => h3⟩]
  rw [List.filter_eq_self.mpr (by simp)]
theorem sSeq_nx {f h : FS} {env e1 : FEn} {x x1 : FRow} (a : f env x = some (.nx e1, x1)) : sSeq f h env x = h e1 x1 := by simp [sSeq, a]
theorem rgD_map (n : Nat) : rgD 0 n = (List.range n).map fun (i : Nat) => D.int (i : Int) := by simp [rgD]
theorem enD_map {α : Type} (enc : α → D) (l : List α) : enD (l.map enc) = l.zipIdx.map fun p => D.tuple [.int (p.2 : Int), enc p.1] := by
  unfold enD
  apply List.ext_getElem (by simp)
  intro i h1 h2
  simp
theorem atI_nat {α : Type} {l : List α} {i : Nat} {z : α} (h : l[i]? = some z) : L2.atI l (i : Int) = some z := by
  have hi : i < l.length := by
    by_cases c : i < l.length
    · exact c
    · rw [List.getElem?_eq_none (by omega)] at h; exact absurd h (by simp)
  unfold L2.atI L2.ixN
  rw [if_pos (by omega), if_pos (by omega)]
  simpa using h
theorem atI_int {α : Type} {l : List α} {i : Int} {z : α} (h0 : 0 ≤ i) (h : l[i.toNat]? = some z) : L2.atI l i = some z := by
  rw [show i = ((i.toNat : Nat) : Int) by omega]; exact atI_nat h
theorem atI_z0 {α : Type} {a : α} {l : List α} : L2.atI (a :: l) 0 = some a := atI_nat (i := 0) rfl
theorem atI_z1 {α : Type} {a b : α} {l : List α} : L2.atI (a :: b :: l) 1 = some b := atI_nat (i := 1) rfl
def P0 (d : D) : Prop := d = .none ∨ (∃ i, d = .int i) ∨ (∃ b, d = .str b ∧ PyData.strOk b = true) ∨ ∃ b, d = .bool b
def Pt : Nat → D → Prop
  | 0, d => P0 d
  | k + 1, d => P0 d ∨ ∃ ds, (d = .tuple ds ∨ d = .list ds) ∧ ds.length ≤ 1000 ∧ ∀ e ∈ ds, Pt k e
theorem lay_all : ∀ ds : List D, (∀ e ∈ ds, e.py.canLay0 = true) → PyData.canLayAll0 (pyAll ds) = true
  | [], _ => by simp [pyAll, PyData.canLayAll0]
  | d :: ds, h => by
    simp only [pyAll, PyData.canLayAll0, h d (by simp), lay_all ds fun e he => h e (by simp [he])]; rfl
theorem dep_all (k : Nat) : ∀ ds : List D, (∀ e ∈ ds, e.py.depth ≤ k) → PyData.depthAll (pyAll ds) ≤ k
  | [], _ => by simp [pyAll, PyData.depthAll]
  | d :: ds, h => by
    simp only [pyAll, PyData.depthAll]
    have := h d (by simp)
    have := dep_all k ds fun e he => h e (by simp [he])
    omega
theorem eq_all : ∀ ds : List D, (∀ e ∈ ds, PyData.eqv e.py e.py = true) → PyData.eqvAll (pyAll ds) (pyAll ds) = true
  | [], _ => by simp [pyAll, PyData.eqvAll]
  | d :: ds, h => by
    simp only [pyAll, PyData.eqvAll, h d (by simp), eq_all ds fun e he => h e (by simp [he])]; rfl
theorem P0.ok {d : D} (h : P0 d) : d.py.canLay0 = true ∧ d.py.depth = 0 ∧ PyData.eqv d.py d.py = true := by
  rcases h with rfl | ⟨i, rfl⟩ | ⟨b, rfl, hb⟩ | ⟨b, rfl⟩ <;> simp_all [D.py, PyData.canLay0, PyData.depth, PyData.eqv]
theorem Pt.ok : ∀ {k : Nat} {d : D}, Pt k d → d.py.canLay0 = true ∧ d.py.depth ≤ k ∧ PyData.eqv d.py d.py = true
  | 0, d, h => by have := P0.ok h; exact ⟨this.1, by omega, this.2.2⟩
  | k + 1, d, h => by
    rcases h with h | ⟨ds, e, _, h⟩
    · have := P0.ok h; exact ⟨this.1, by omega, this.2.2⟩
    · have h1 := lay_all ds fun e he => (Pt.ok (h e he)).1
      have h2 := dep_all k ds fun e he => (Pt.ok (h e he)).2.1
      have h3 := eq_all ds fun e he => (Pt.ok (h e he)).2.2
      rcases e with rfl | rfl <;> simp [D.py, PyData.canLay0, PyData.depth, PyData.eqv, h1, h2, h3]
theorem Pt.sh {k : Nat} {d : D} (h : Pt k d) (hk : k ≤ 64) : shapedD d = true := by
  have := h.ok
  simp [shapedD, SeqAt.shaped, this.1, Nat.le_trans this.2.1 hk]
theorem Pt.rf {k : Nat} {d : D} (h : Pt k d) (hk : k ≤ 64) : gEq d d = some (.bool true) := by
  simp [gEq, h.sh hk, eqD, h.ok.2.2]
theorem Pt.nrf {k : Nat} {d : D} (h : Pt k d) (hk : k ≤ 64) : gNe d d = some (.bool false) := by
  simp [gNe, h.sh hk, eqD, h.ok.2.2]
theorem Pt.up : ∀ {k : Nat} {d : D}, Pt k d → Pt (k + 1) d
  | 0, d, h => Or.inl h
  | k + 1, d, h => by
    rcases h with h | ⟨ds, e, l, h⟩
    · exact Or.inl h
    · exact Or.inr ⟨ds, e, l, fun z hz => Pt.up (h z hz)⟩
theorem Pt.le {k j : Nat} {d : D} (h : Pt k d) (hj : k ≤ j) : Pt j d := by
  induction j with
  | zero => have : k = 0 := by omega
            subst this; exact h
  | succ j ih =>
    by_cases c : k = j + 1
    · subst c; exact h
    · exact (ih (by omega)).up
theorem sh_int (i : Int) : shapedD (.int i) = true := by simp [shapedD, SeqAt.shaped, D.py, PyData.canLay0, PyData.depth]
theorem eq_int (i j : Int) : gEq (.int i) (.int j) = some (.bool (decide (i = j))) := by
  simp [gEq, sh_int, eqD, D.py, PyData.eqv]
  by_cases h : i = j <;> simp [h]
theorem lc_eq {f : FA} {gt : FGt} {t : FT} {fe : FE} {vs : List Nat} {env : FEn} {x : FRow} {ds rs : List D} (h1 : f env x = some (ds, x)) (h2 : compL gt t fe (wipeE env vs) ds x = some (rs, x)) (h3 : rs.length < maxLen) : fOfX (xLc f gt t fe vs) env x = some (.list rs, x) := by
  simp [fOfX, xLc, h1, h2, h3, OwD.d]
theorem mkF_rt {n k : Nat} {b : FS} {ds : List D} {d : D} {x : FRow} (hk : ds.length = k) (h : b (startE n ds) row0 = some (.rt d, x)) : mkF n k b ds = some d := by
  simp [mkF, hk, h]
theorem rg_ok {n : Nat} (h : n ≤ 1000) : okRg (n : Int) = true := by
  simp only [okRg, decide_eq_true_eq]; omega
theorem is_number_eq (i a b : Int) : m_is_number [.int i, .int a, .int b] = some (.bool (decide (a ≤ i) && decide (i ≤ b))) := by
  by_cases h1 : a ≤ i <;> by_cases h2 : i ≤ b <;> simp [m_is_number, b_is_number, fVar, fBor, fC, aNil, aCons, fTup, fLst, fBin, fTst, fChain, fAnd, fOr, fNot, fNeg, tAndF, tOrF, tNotF, fTru, fIf, fSl, oNone, oSome, fCall, fCallR, fRow, fRowLen, fRowAt, sSet, sPars, setsE, xVal, xLst, xNew, xDict1, sRet, sNo, sNil, sSeq, sIf, eFrz, sFrz, sUnp, gtName, gtNil, gtCons, gtTup, fSeq, sAug, sDrop, sApp, sExt, sDPut, fOfX, sRow, xsNil, xsCons, fIsi, fIsi2, okRg, fRg1, fRg2, fEn, mkF, mkR, startE, tYesF, OwD.d, sFor, xLc, xDc, wipeE, truD, isNoneD, gIsN, gNotN, isiD, maxLen, gI, gOr, gAdd, gMul, gCatT, gCatL, gLtX, gLt, gLen, gInt, gTupOf, gListOf, gAt, pMod, pDiv, pMul, pPow, h1, h2]
theorem has_items_eq (ds : List D) (a b : Int) : m_has_items [.tuple ds, .int a, .int b] = some (.bool (decide (a ≤ ds.length) && decide ((ds.length : Int) ≤ b))) := by
  by_cases h1 : a ≤ ds.length <;> by_cases h2 : (ds.length : Int) ≤ b <;> simp [m_has_items, b_has_items, fVar, fBor, fC, aNil, aCons, fTup, fLst, fBin, fTst, fChain, fAnd, fOr, fNot, fNeg, tAndF, tOrF, tNotF, fTru, fIf, fSl, oNone, oSome, fCall, fCallR, fRow, fRowLen, fRowAt, sSet, sPars, setsE, xVal, xLst, xNew, xDict1, sRet, sNo, sNil, sSeq, sIf, eFrz, sFrz, sUnp, gtName, gtNil, gtCons, gtTup, fSeq, sAug, sDrop, sApp, sExt, sDPut, fOfX, sRow, xsNil, xsCons, fIsi, fIsi2, okRg, fRg1, fRg2, fEn, mkF, mkR, startE, tYesF, OwD.d, sFor, xLc, xDc, wipeE, truD, isNoneD, gIsN, gNotN, isiD, maxLen, gI, gOr, gAdd, gMul, gCatT, gCatL, gLtX, gLt, gLen, gInt, gTupOf, gListOf, gAt, pMod, pDiv, pMul, pPow, h1, h2]
end Lp
namespace Lp
open Lw
open PySem RT
theorem mkF_nx {n k : Nat} {b : FS} {ds : List D} {e : FEn} {x : FRow} (hk : ds.length = k) (h : b (startE n ds) row0 = some (.nx e, x)) : mkF n k b ds = some .none := by
  simp [mkF, hk, h]
theorem bools_map {α : Type} (f : α → Bool) : ∀ l : List α, bools (l.map fun a => .bool (f a)) = some (l.map f)
  | [] => rfl
  | a :: l => by simp [bools, bools_map f l]
theorem P0i (i : Int) : P0 (.int i) := Or.inr (Or.inl ⟨i, rfl⟩)
theorem tupOf_ok {F : FE} {env : FEn} {x x1 : FRow} {ds : List D} (h : F env x = some (.list ds, x1)) : fCall gTupOf (aCons F aNil) env x = some (.tuple ds, x1) := by
  simp only [fCall, aCons, aNil, h, gTupOf]
theorem fTup_ok {t : FA} {env : FEn} {x x1 : FRow} {ds : List D} (h : t env x = some (ds, x1)) (hl : ds.length ≤ maxLen) : fTup t env x = some (.tuple ds, x1) := by
  simp only [fTup, h, if_pos hl]
theorem aCons2 {fa fb : FE} {env : FEn} {x x1 x2 : FRow} {d e : D} (h : fa env x = some (d, x1)) (h' : fb env x1 = some (e, x2)) : aCons fa (aCons fb aNil) env x = some ([d, e], x2) := by
  simp only [aCons, aNil, h, h']
theorem fLst_ok {t : FA} {env : FEn} {x x1 : FRow} {ds : List D} (h : t env x = some (ds, x1)) (hl : ds.length ≤ maxLen) : fLst t env x = some (.list ds, x1) := by
  simp only [fLst, h, if_pos hl]
theorem ml (k : Nat) (h : k ≤ 1000) : k ≤ maxLen := by simp only [maxLen]; omega
theorem sSet_va {i : Nat} {f : FE} {env : FEn} {x x1 : FRow} {d : D} (h : f env x = some (d, x1)) : sSet i (xVal f) env x = some (.nx (env.set i (.va d)), x1) := by
  simp only [sSet, xVal, h]
theorem fAnd_eq {fa fb : FE} {env : FEn} {x : FRow} {a b : Bool} (h : fa env x = some (.bool a, x)) (h' : fb env x = some (.bool b, x)) : fAnd fa fb env x = some (.bool (a && b), x) := by
  cases a <;> simp only [fAnd, h, h', Bool.true_and, Bool.false_and]
theorem fBin_eq {gd : D → D → Option D} {fa fb : FE} {env : FEn} {x x1 x2 : FRow} {d e r : D} (h : fa env x = some (d, x1)) (h' : fb env x1 = some (e, x2)) (hg : gd d e = some r) : fBin gd fa fb env x = some (r, x2) := by
  simp only [fBin, h, h', hg]
theorem fCall_eq {m : List D → Option D} {fa : FA} {env : FEn} {x x1 : FRow} {ds : List D} {r : D} (h : fa env x = some (ds, x1)) (hm : m ds = some r) : fCall m fa env x = some (r, x1) := by
  simp only [fCall, h, hm]
theorem aCons1 {fa : FE} {env : FEn} {x x1 : FRow} {d : D} (h : fa env x = some (d, x1)) : aCons fa aNil env x = some ([d], x1) := by
  simp only [aCons, aNil, h]
theorem fCallR_eq {i : Nat} {m : List D → FRow → Option (D × FRow)} {fa : FA} {env : FEn} {x x1 x2 : FRow} {ds : List D} {r : D} (he : env[i]? = some .rw) (h : fa env x = some (ds, x1)) (hm : m ds x1 = some (r, x2)) : fCallR i m fa env x = some (r, x2) := by
  simp only [fCallR, he, h, hm]
theorem aCons_eq {f : FE} {t : FA} {env : FEn} {x x1 x2 : FRow} {d : D} {ds : List D} (h : f env x = some (d, x1)) (h' : t env x1 = some (ds, x2)) : aCons f t env x = some (d :: ds, x2) := by
  simp only [aCons, h, h']
theorem if_no {t : FT} {f : FS} {env : FEn} {x : FRow} (h : t env x = some (false, x)) : sIf t f sNil env x = some (.nx env, x) := by
  simp only [sIf, h, sNil]
theorem prog {m : List D → Option D} {i : Nat} {env : FEn} {x : FRow} {d r : D} (h : fVar i env x = some (d, x)) (hm : m [d] = some r) : fCall m (aCons (fVar i) aNil) env x = some (r, x) := fCall_eq (aCons1 h) hm
theorem for_eq {f : FA} {gt : FGt} {b : FS} {env : FEn} {x x1 : FRow} {ds : List D} {r : Option (FRs × FRow)} (h : f env x = some (ds, x1)) (hr : forL gt b ds env x1 = r) : sFor f gt b env x = r := by
  simp only [sFor, h, hr]
theorem taken_ok {x : FRow} {many : Int} (ha : 0 ≤ x.a) (hm : 0 < many) (hs : many < 1073741824) : ∃ r x', m_law_taken [.int many] x = some (.int r, x') ∧ 0 ≤ r ∧ r < many ∧ 0 ≤ x'.a := by
  obtain ⟨ns, a, b, c⟩ := x
  simp only at ha
  have hmod : ∀ z : Int, 0 ≤ z % many ∧ z % many < many := fun z => ⟨Int.emod_nonneg _ (by omega), Int.emod_lt_of_pos _ hm⟩
  simp only [m_law_taken, mkR, startE, b_law_taken]
  by_cases hc : 0 < c
  · refine ⟨c % many, ⟨ns, a, b, c / many⟩, ?_, (hmod c).1, (hmod c).2, ha⟩
    simp [sSeq, sIf, sSet, sRow, sRet, sNil, sAug, fTst, fBin, fRow, fC, fCall, fRowLen, fRowAt, fVar, fBor, xVal, aCons, aNil, gI, gInt, gOr, gAdd, gMul, gAddI, gMulI, pMod, pDiv, pMul, hc, hm, hs]
  · by_cases hl : (ns.length : Int) < a + 1
    · refine ⟨((b * 48271 + 11) % 2147483647 / 7) % many, ⟨ns, a + 1, (b * 48271 + 11) % 2147483647, c⟩, ?_, (hmod _).1, (hmod _).2, by simp only; omega⟩
      simp [sSeq, sIf, sSet, sRow, sRet, sNil, sAug, fTst, fBin, fRow, fC, fCall, fRowLen, fRowAt, fVar, fBor, xVal, aCons, aNil, gI, gInt, gOr, gAdd, gMul, gAddI, gMulI, pMod, pDiv, pMul, hc, hm, hs, hl]
    · have hlt : a.toNat < ns.length := by omega
      have hat : L2.atI ns a = some ns[a.toNat] := atI_int ha (List.getElem?_eq_getElem hlt)
      generalize ns[a.toNat] = f at hat
      by_cases hf : (1000000000000000000 : Int) ≤ f
      · refine ⟨f % many, ⟨ns, a + 1, (b * 48271 + f + 11) % 2147483647, f / many⟩, ?_, (hmod _).1, (hmod _).2, by simp only; omega⟩
        simp [sSeq, sIf, sSet, sRow, sRet, sNil, sAug, fTst, fBin, fRow, fC, fCall, fRowLen, fRowAt, fVar, fBor, xVal, aCons, aNil, gI, gInt, gOr, gAdd, gMul, gAddI, gMulI, pMod, pDiv, pMul, pPow, hc, hm, hs, hl, hat, hf]
      · refine ⟨f % many, ⟨ns, a + 1, (b * 48271 + f + 11) % 2147483647, c⟩, ?_, (hmod _).1, (hmod _).2, by simp only; omega⟩
        simp [sSeq, sIf, sSet, sRow, sRet, sNil, sAug, fTst, fBin, fRow, fC, fCall, fRowLen, fRowAt, fVar, fBor, xVal, aCons, aNil, gI, gInt, gOr, gAdd, gMul, gAddI, gMulI, pMod, pDiv, pMul, pPow, hc, hm, hs, hl, hat, hf]
theorem pick_ok {l : List D} (h1 : l ≠ []) (h2 : l.length ≤ 1000) {x : FRow} (hx : 0 ≤ x.a) : ∃ d x', d ∈ l ∧ m_law_pick [.list l] x = some (d, x') ∧ 0 ≤ x'.a := by
  have hl : 0 < l.length := List.length_pos_iff.mpr h1
  obtain ⟨r, x', e, ra, rb, hx'⟩ := taken_ok (many := (l.length : Int)) hx (by omega) (by omega)
  have hr : r.toNat < l.length := by omega
  refine ⟨l[r.toNat], x', List.getElem_mem hr, ?_, hx'⟩
  have c : b_law_pick [.rw, .va (.list l)] x = some (.rt l[r.toNat], x') := by
    have e1 : fCall gLen (aCons (fBor 1) aNil) [.rw, .va (.list l)] x = some (.int (l.length : Nat), x) := rfl
    have e2 := fCallR_eq (i := 0) (env := [FSl.rw, .va (.list l)]) rfl (aCons1 e1) e
    have e3 := fBin_eq (gd := gAt) (fa := fBor 1) (env := [FSl.rw, .va (.list l)]) (x := x) (d := .list l) rfl e2 (by
      show L2.atI l r = _
      exact atI_int ra (List.getElem?_eq_getElem hr))
    simp only [b_law_pick, sRet, e3]
  show mkR 1 1 b_law_pick _ x = _
  simp only [mkR, List.length_cons, List.length_nil, if_true]
  rw [show FSl.rw :: startE 1 [D.list l] = [.rw, .va (.list l)] from rfl, c]
end Lp
namespace Lp
open Lw
open PySem RT Wb6
/-! webs of marks that are tuples of ints and texts -/
abbrev Mk := List L2.Key
def mD (m : Mk) : D := .tuple (m.map keyD)
theorem dKey_k : ∀ k : L2.Key, dKey (keyD k) = some k
  | .inl i => rfl
  | .inr s => rfl
theorem dKeys_m : ∀ m : Mk, dKeys (m.map keyD) = some m
  | [] => rfl
  | k :: m => by simp [dKeys, dKey_k, dKeys_m m]
theorem dKeyT_m (m : Mk) : dKeyT (mD m) = some m := dKeys_m m
theorem nob_n {k : Nat} (h : k ≤ 100000) : k < maxLen := by simp only [maxLen]; omega
theorem one_ml {d : D} : [d].length ≤ maxLen := by rw [List.length_singleton]; exact ml 1 (by omega)
theorem two_ml {d e : D} : [d, e].length ≤ maxLen := by rw [List.length_cons, List.length_singleton]; exact ml 2 (by omega)
theorem tri_ml {d e f : D} : [d, e, f].length ≤ maxLen := by rw [List.length_cons, List.length_cons, List.length_singleton]; exact ml 3 (by omega)
theorem nil_ml : ([] : List D).length ≤ maxLen := by rw [List.length_nil]; exact ml 0 (by omega)
theorem fB {gd : D → D → Option D} {fa fb : FE} {env : FEn} {x : FRow} {d e r : D} (h : fa env x = some (d, x)) (h' : fb env x = some (e, x)) (hg : gd d e = some r) : fBin gd fa fb env x = some (r, x) := fBin_eq h h' hg
theorem fK {m : List D → Option D} {fa : FA} {env : FEn} {x : FRow} {ds : List D} {r : D} (h : fa env x = some (ds, x)) (hm : m ds = some r) : fCall m fa env x = some (r, x) := fCall_eq h hm
theorem aC1 {fa : FE} {env : FEn} {x : FRow} {d : D} (h : fa env x = some (d, x)) : aCons fa aNil env x = some ([d], x) := aCons1 h
theorem aC2 {fa fb : FE} {env : FEn} {x : FRow} {d e : D} (h : fa env x = some (d, x)) (h' : fb env x = some (e, x)) : aCons fa (aCons fb aNil) env x = some ([d, e], x) := aCons2 h h'
theorem aC3 {fa fb fc : FE} {env : FEn} {x : FRow} {d e f : D} (h : fa env x = some (d, x)) (h' : fb env x = some (e, x)) (h'' : fc env x = some (f, x)) : aCons fa (aCons fb (aCons fc aNil)) env x = some ([d, e, f], x) := aCons_eq h (aCons2 h' h'')
theorem vV {i : Nat} {env : FEn} {x : FRow} {d : D} (h : env[i]? = some (.va d)) : fVar i env x = some (d, x) := by simp only [fVar, h]
theorem vB {i : Nat} {env : FEn} {x : FRow} {d : D} (h : env[i]? = some (.va d)) : fBor i env x = some (d, x) := by simp only [fBor, h]
theorem sqL {f : FE} {env : FEn} {x : FRow} {ds : List D} (h : f env x = some (.list ds, x)) : fSeq f env x = some (ds, x) := by simp only [fSeq, h]
theorem sqT {f : FE} {env : FEn} {x : FRow} {ds : List D} (h : f env x = some (.tuple ds, x)) : fSeq f env x = some (ds, x) := by simp only [fSeq, h]
theorem sR {f : FE} {env : FEn} {x : FRow} {d : D} (h : f env x = some (d, x)) : sRet f env x = some (.rt d, x) := by simp only [sRet, h]
theorem sV {i : Nat} {f : FE} {env : FEn} {x : FRow} {d : D} (h : f env x = some (d, x)) : sSet i (xVal f) env x = some (.nx (env.set i (.va d)), x) := sSet_va h
theorem forL_dr {α : Type} {gt : FGt} {b : FS} {x : FRow} (enc : α → D) (l : List α) (E : Nat → FEn → Prop) (h : ∀ i (hi : i < l.length) env, E i env → ∃ e e2, gt (enc l[i]) env = some e ∧ b e x = some (.nx e2, x) ∧ E (i + 1) e2) :
    ∀ (n k : Nat), k + n = l.length → ∀ env, E k env → ∃ e, forL gt b ((l.drop k).map enc) env x = some (.nx e, x) ∧ E l.length e
  | 0, k, hk, env, r => by
    have : k = l.length := by omega
    subst this
    exact ⟨env, by rw [List.drop_length]; rfl, r⟩
  | n + 1, k, hk, env, r => by
    have hi : k < l.length := by omega
    obtain ⟨e, e2, h1, h2, h3⟩ := h k hi env r
    obtain ⟨e3, h4, h5⟩ := forL_dr enc l E h n (k + 1) (by omega) e2 h3
    refine ⟨e3, ?_, h5⟩
    rw [List.drop_eq_getElem_cons hi, List.map_cons, forL, h1]
    simp only [h2]
    exact h4
theorem forL_ix {α : Type} {gt : FGt} {b : FS} {x : FRow} (enc : α → D) (l : List α) (E : Nat → FEn → Prop) (env : FEn) (r : E 0 env) (h : ∀ i (hi : i < l.length) env, E i env → ∃ e e2, gt (enc l[i]) env = some e ∧ b e x = some (.nx e2, x) ∧ E (i + 1) e2) :
    ∃ e, forL gt b (l.map enc) env x = some (.nx e, x) ∧ E l.length e := forL_dr enc l E h l.length 0 (by omega) env r
variable {W : Web Mk} {gs : List Int}
/-! counts_to -/
/-! rows_to -/
/-! place_behind -/
def go (W : Web Mk) : Int → List Mk → Option Int
  | v, [] => some v
  | v, m :: r => match (stp W v).find? (fun p => decide (p.1 = m)) with
    | some p => go W p.2 r
    | none => none
def dcD (st : List (Mk × Int)) : List (D × D) := st.map fun p => (mD p.1, .int p.2)
theorem put_new {acc st : List (Mk × Int)} {p : Mk × Int} (h : ∀ q ∈ acc, q.1 ≠ p.1) : putD dKeyT (dcD acc) (mD p.1) p.1 (.int p.2) = dcD (acc ++ [p]) := by
  unfold putD
  have : ((dcD acc).any fun q => decide (dKeyT q.1 = some p.1)) = false := by
    rw [List.any_eq_false]
    intro q hq
    obtain ⟨a, ha, rfl⟩ := List.mem_map.mp hq
    simp only [dKeyT_m, decide_eq_true_eq, Option.some.injEq]
    exact h a ha
  rw [this]
  simp [dcD]
theorem val_st (st : List (Mk × Int)) (m : Mk) : valD dKeyT (dcD st) m = (st.find? fun p => decide (p.1 = m)).map fun p => .int p.2 := by
  induction st with
  | nil => rfl
  | cons p st ih =>
    unfold valD at ih ⊢
    rw [show dcD (p :: st) = (mD p.1, .int p.2) :: dcD st from rfl, List.find?_cons, List.find?_cons]
    simp only [dKeyT_m, Option.some.injEq]
    by_cases c : p.1 = m
    · simp [c]
    · simp [c, ih]
end Lp
namespace Lp
open Lw
open PySem RT Wb6
/-! order of marks, rows; sorted lists stay -/
def mlt (a b : Mk) : Prop := PySem.W.dataLt (mD a).py (mD b).py = true ∧ PyData.eqv (mD a).py (mD b).py = false
def shp (m : Mk) : List Bool := m.map Sum.isLeft
theorem key_alike {a b : L2.Key} (h : a.isLeft = b.isLeft) : PySem.W.alike (keyD a).py (keyD b).py = true := by
  cases a <;> cases b <;> simp_all [keyD, D.py, PySem.W.alike]
theorem keys_alike : ∀ {a b : Mk}, shp a = shp b → PySem.W.alikeAll (pyAll (a.map keyD)) (pyAll (b.map keyD)) = true
  | [], [], _ => by simp [pyAll, PySem.W.alikeAll]
  | x :: a, y :: b, h => by
    simp only [shp, List.map_cons, List.cons.injEq] at h
    simp only [List.map_cons, pyAll, PySem.W.alikeAll, key_alike h.1, keys_alike h.2, Bool.and_self]
  | [], _ :: _, h => by simp [shp] at h
  | _ :: _, [], h => by simp [shp] at h
theorem m_alike {a b : Mk} (h : shp a = shp b) : PySem.W.alike (mD a).py (mD b).py = true := by
  simp only [mD, D.py, PySem.W.alike, keys_alike h]
def kOk : L2.Key → Prop
  | .inl _ => True
  | .inr s => PyData.strOk s = true
def MOk (S : List Bool) (m : Mk) : Prop := shp m = S ∧ ∀ k ∈ m, kOk k
theorem sort_none {x : D} {xs : List D} {X : List D} (hx : intsD (x :: xs) = none) : gSort [.list (.tuple (x :: xs) :: X)] = none := by
  simp only [gSort, cOr, gSortI, intsD, gSortT, tupsD, hx]
theorem pt_key {k : L2.Key} (h : kOk k) : Pt 0 (keyD k) := by
  cases k with
  | inl i => exact Or.inr (Or.inl ⟨i, rfl⟩)
  | inr s => exact Or.inr (Or.inr (Or.inl ⟨s, rfl, h⟩))
theorem pt_m {S : List Bool} {m : Mk} (h : MOk S m) (hS : S.length ≤ 1000) : Pt 1 (mD m) := Or.inr ⟨m.map keyD, Or.inl rfl, by
  have := congrArg List.length h.1
  simp only [shp, List.length_map] at this ⊢; omega, by
  intro e he
  obtain ⟨k, hk, rfl⟩ := List.mem_map.mp he
  exact pt_key (h.2 k hk)⟩
theorem pt_list {k : Nat} {ds : List D} (h : ds.length ≤ 1000) (hd : ∀ d ∈ ds, Pt k d) : Pt (k + 1) (.list ds) := Or.inr ⟨ds, Or.inr rfl, h, hd⟩
theorem alikeB_of {α : Type} {f : α → D} {l : List α} (h : ∀ a ∈ l, ∀ b ∈ l, PySem.W.alike (f a).py (f b).py = true) : alikeB (l.map f) = true := by
  unfold alikeB
  rw [List.all_eq_true]
  intro d hd
  obtain ⟨a, ha, rfl⟩ := List.mem_map.mp hd
  rw [List.all_eq_true]
  intro e he
  obtain ⟨b, hb, rfl⟩ := List.mem_map.mp he
  exact h a ha b hb
theorem mlt_ne {a b : Mk} (h : mlt a b) : a ≠ b := fun e => by
  subst e
  have := h.1
  rw [PySem.W.dataLt, PyProof.Rows.lex_irrefl] at this; cases this
theorem asc_nd {st : List (Mk × Int)} (h : st.Pairwise fun p q => mlt p.1 q.1) : (st.map (·.1)).Nodup := by
  unfold List.Nodup
  rw [List.pairwise_map]
  exact h.imp mlt_ne
theorem find_nd {st : List (Mk × Int)} (h : (st.map (·.1)).Nodup) {p : Mk × Int} (hp : p ∈ st) : (st.find? fun q => decide (q.1 = p.1)) = some p := by
  induction st with
  | nil => simp at hp
  | cons a st ih =>
    rw [List.find?_cons]
    rw [List.map_cons, List.nodup_cons] at h
    rcases List.mem_cons.mp hp with rfl | hp
    · simp
    · have : a.1 ≠ p.1 := fun e => h.1 (e ▸ List.mem_map.mpr ⟨p, hp, rfl⟩)
      simp only [this, decide_false]
      exact ih h.2 hp
theorem check_number_ok {m a b : Int} (h : a ≤ m ∧ m ≤ b) : m_check_number [.int m, .int a, .int b] = some .none := by
  refine mkF_nx (e := [.va (.int m), .va (.int a), .va (.int b)]) (x := row0) rfl ?_
  have : fCall m_is_number (aCons (fVar 0) (aCons (fVar 1) (aCons (fVar 2) aNil))) [.va (.int m), .va (.int a), .va (.int b)] row0 = some (.bool true, row0) := by
    refine fK (aC3 (vV rfl) (vV rfl) (vV rfl)) ?_
    rw [is_number_eq]; simp [h.1, h.2]
  show b_check_number [.va (.int m), .va (.int a), .va (.int b)] row0 = _
  simp only [b_check_number, sIf, tNotF, fTru, this, truD, Bool.not_true, sNil]
end Lp
namespace Lp
open Lw
open PySem RT Wb6
/-! parts -/
abbrev hearS : Str := Str.ofString "hear"
abbrev sayS : Str := Str.ofString "say"
abbrev StT := Bool × List (Mk × Int)
def eSt (p : Mk × Int) : D := .tuple (p.1.map keyD ++ [.int p.2])
def eSta (s : StT) : D := .tuple [.bool s.1, .tuple (s.2.map eSt)]
def ePa (ps : List StT) : D := .tuple (ps.map eSta)
def evOk (m : Mk) : Prop := ∃ k o w, m = [.inr k, .inl o, .inl w] ∧ (k = hearS ∨ k = sayS) ∧ (0 ≤ o ∧ o ≤ 3) ∧ (0 ≤ w ∧ w ≤ 5)
abbrev S4 : List Bool := [false, true, true]
structure StOk (m : Nat) (s : StT) : Prop where
  l : s.2.length ≤ 3
  e : ∀ p ∈ s.2, evOk p.1
  t : ∀ p ∈ s.2, 0 ≤ p.2 ∧ p.2 < (m : Int)
  a : s.2.Pairwise fun p q => mlt p.1 q.1
structure POk (ps : List StT) : Prop where
  n : 1 ≤ ps.length ∧ ps.length ≤ 8
  s : ∀ s ∈ ps, StOk ps.length s
def wP (ps : List StT) : Web Mk := ps.map (·.2)
variable {ps : List StT}
theorem str_ok {k : Str} (h : k = hearS ∨ k = sayS) : PyData.strOk k = true := by rcases h with rfl | rfl <;> decide +kernel
theorem evOk.mok {m : Mk} (h : evOk m) : MOk S4 m := by
  obtain ⟨k, o, w, rfl, hk, _⟩ := h
  refine ⟨rfl, fun q hq => ?_⟩
  simp only [List.mem_cons, List.not_mem_nil, or_false] at hq
  rcases hq with rfl | rfl | rfl
  · exact str_ok hk
  · exact True.intro
  · exact True.intro
theorem POk.web (h : POk ps) : WOk (wP ps) where
  n := by rw [wP, List.length_map]; exact h.n
  k := by
    intro st hst
    obtain ⟨s, hs, rfl⟩ := List.mem_map.mp hst
    exact (h.s s hs).l
  to := by
    intro st hst p hp
    obtain ⟨s, hs, rfl⟩ := List.mem_map.mp hst
    rw [wP, List.length_map]; exact (h.s s hs).t p hp
theorem POk.asc (h : POk ps) : ∀ st ∈ wP ps, st.Pairwise fun p q => mlt p.1 q.1 := by
  intro st hst
  obtain ⟨s, hs, rfl⟩ := List.mem_map.mp hst
  exact (h.s s hs).a
theorem POk.nd (h : POk ps) : ∀ st ∈ wP ps, (st.map (·.1)).Nodup := fun st hst => asc_nd (h.asc st hst)
def staAt (ps : List StT) (v : Int) : StT := (ps[v.toNat]?).getD (false, [])
theorem staAt_mem {v : Int} (h0 : 0 ≤ v) (h1 : v < ps.length) : ps[v.toNat]? = some (staAt ps v) ∧ staAt ps v ∈ ps := by
  have hl : v.toNat < ps.length := by omega
  have e : ps[v.toNat]? = some ps[v.toNat] := List.getElem?_eq_getElem hl
  have e2 : staAt ps v = ps[v.toNat] := by unfold staAt; rw [e]; rfl
  rw [e2]; exact ⟨e, List.getElem_mem hl⟩
theorem ePa_at {v : Int} (h0 : 0 ≤ v) (h1 : v < ps.length) : gAt (ePa ps) (.int v) = some (eSta (staAt ps v)) := by
  simp only [ePa, gAt]
  exact atI_int h0 (by rw [List.getElem?_map, (staAt_mem h0 h1).1]; rfl)
theorem evOk.len {m : Mk} (h : evOk m) : m.length = 3 := by obtain ⟨k, o, w, rfl, _⟩ := h; rfl
theorem eSt_3 {p : Mk × Int} (h : evOk p.1) : gAt (eSt p) (.int 3) = some (.int p.2) := by
  simp only [eSt, gAt]
  exact atI_nat (i := 3) (by rw [List.getElem?_append_right (by rw [List.length_map, h.len]; omega), List.length_map, h.len]; rfl)
theorem cut3 {p : Mk × Int} (h : evOk p.1) : cutL (p.1.map keyD ++ [.int p.2]) none (some 3) = p.1.map keyD := by
  obtain ⟨k, o, w, e, _⟩ := h
  rw [e]
  rfl
theorem sl3 {p : Mk × Int} (h : evOk p.1) {f : FE} {env : FEn} {x : FRow} (hf : f env x = some (eSt p, x)) : fSl f oNone (oSome (fC (.int 3))) env x = some (mD p.1, x) := by
  simp only [fSl, hf, oNone, oSome, fC, eSt, gSl, cut3 h]
  rfl
/-! the checks -/
theorem is_event_ok {m : Mk} (h : evOk m) : m_is_event [mD m] = some (.bool true) := by
  obtain ⟨k, o, w, rfl, hk, ho, hw⟩ := h
  refine mkF_rt (x := row0) rfl ?_
  have c1 : sIf (tNotF (fTru (fCall m_has_items (aCons (fVar 0) (aCons (fC (.int 3)) (aCons (fC (.int 3)) aNil)))))) (sRet (fC (.bool false))) sNil [.va (mD [.inr k, .inl o, .inl w]), .no, .no, .no] row0 = some (.nx [.va (mD [.inr k, .inl o, .inl w]), .no, .no, .no], row0) := by
    have := fK (x := row0) (env := [.va (mD [.inr k, .inl o, .inl w]), .no, .no, .no]) (aC3 (vV (i := 0) rfl) (show fC (.int 3) _ _ = some (.int 3, row0) from rfl) (show fC (.int 3) _ _ = some (.int 3, row0) from rfl)) (has_items_eq [.str k, .int o, .int w] 3 3)
    simp only [sIf, tNotF, fTru, this, truD]
    rfl
  have c2 : sUnp (fVar 0) (gtTup 3 (gtCons (gtName 1) (gtCons (gtName 2) (gtCons (gtName 3) gtNil)))) [.va (mD [.inr k, .inl o, .inl w]), .no, .no, .no] row0 = some (.nx [.va (mD [.inr k, .inl o, .inl w]), .va (.str k), .va (.int o), .va (.int w)], row0) := rfl
  show b_is_event [.va (mD [.inr k, .inl o, .inl w]), .no, .no, .no] row0 = _
  unfold b_is_event
  rw [sSeq_nx c1, sSeq_nx c2]
  have d1 : fInS [hearS, sayS] (fBor 1) [.va (mD [.inr k, .inl o, .inl w]), .va (.str k), .va (.int o), .va (.int w)] row0 = some (.bool true, row0) := by
    simp only [fInS, vB (show [FSl.va (mD [.inr k, .inl o, .inl w]), .va (.str k), .va (.int o), .va (.int w)][1]? = some (.va (.str k)) from rfl)]
    rcases hk with rfl | rfl <;> simp
  have d2 : fCall m_is_number (aCons (fVar 2) (aCons (fC (.int 0)) (aCons (fC (.int 3)) aNil))) [.va (mD [.inr k, .inl o, .inl w]), .va (.str k), .va (.int o), .va (.int w)] row0 = some (.bool true, row0) := fK (aC3 (vV rfl) rfl rfl) (by rw [is_number_eq]; simp [ho.1, ho.2])
  have d3 : fCall m_is_number (aCons (fVar 3) (aCons (fC (.int 0)) (aCons (fC (.int 5)) aNil))) [.va (mD [.inr k, .inl o, .inl w]), .va (.str k), .va (.int o), .va (.int w)] row0 = some (.bool true, row0) := fK (aC3 (vV rfl) rfl rfl) (by rw [is_number_eq]; simp [hw.1, hw.2])
  exact sR (fAnd_eq d1 (fAnd_eq d2 d3))
theorem is_step_ok {m : Nat} {p : Mk × Int} (h : evOk p.1) (ht : 0 ≤ p.2 ∧ p.2 < (m : Int)) : m_is_step [eSt p, .int m] = some (.bool true) := by
  refine mkF_rt (x := row0) rfl ?_
  show b_is_step [.va (eSt p), .va (.int m)] row0 = _
  have hl : (p.1.map keyD ++ [D.int p.2]).length = 4 := by rw [List.length_append, List.length_map, h.len]; rfl
  have d1 : fCall m_has_items (aCons (fVar 0) (aCons (fC (.int 4)) (aCons (fC (.int 4)) aNil))) [.va (eSt p), .va (.int m)] row0 = some (.bool true, row0) := fK (aC3 (vV rfl) rfl rfl) (by rw [eSt, has_items_eq, hl]; rfl)
  have d2 : fCall m_is_event (aCons (fSl (fBor 0) oNone (oSome (fC (.int 3)))) aNil) [.va (eSt p), .va (.int m)] row0 = some (.bool true, row0) := fK (aC1 (sl3 h (vB rfl))) (is_event_ok h)
  have d3 : fCall m_is_number (aCons (fBin gAt (fBor 0) (fC (.int 3))) (aCons (fC (.int 0)) (aCons (fBin gSubI (fBor 1) (fC (.int 1))) aNil))) [.va (eSt p), .va (.int m)] row0 = some (.bool true, row0) := by
    refine fK (aC3 (fB (vB rfl) rfl (eSt_3 h)) rfl (fB (vB rfl) rfl (r := .int ((m : Int) - 1)) rfl)) ?_
    rw [is_number_eq]
    have : p.2 ≤ (m : Int) - 1 := by omega
    simp [ht.1, this]
  exact sR (fAnd_eq d1 (fAnd_eq d2 d3))
theorem rg1 {f : FE} {env : FEn} {x : FRow} {n : Nat} (h : f env x = some (.int (n : Int), x)) (hn : n ≤ 1000) : fRg1 f env x = some (rgD 0 n, x) := by
  simp only [fRg1, h, rg_ok hn, if_true, Int.toNat_natCast]
theorem ltX_ev {a b : Mk} (ha : evOk a) (hb : evOk b) (h : mlt a b) : gLtX (mD a) (mD b) = some (.bool true) := by
  have ea := ha.mok
  have eb := hb.mok
  have hs1 := (pt_m ea (by decide)).sh (by omega)
  have hs2 := (pt_m eb (by decide)).sh (by omega)
  have hk := m_alike (ea.1.trans eb.1.symm)
  have hn : isNoneD (mD a) = false := rfl
  have : gLt (mD a) (mD b) = none := by
    obtain ⟨k, o, w, e, _⟩ := ha
    rw [e]; rfl
  simp only [gLtX, gOr, this, gLtD, hs1, hs2, hk, hn, h.1, Bool.not_false, Bool.and_self, if_true]
theorem rising_le2 {l : List (Mk × Int)} (hl : l.length ≤ 3) (he : ∀ p ∈ l, evOk p.1) (ha : l.Pairwise fun p q => mlt p.1 q.1) : m_is_rising [.list (l.map fun p => mD p.1)] = some (.bool true) := by
  refine mkF_rt (x := row0) rfl ?_
  show b_is_rising [.va (.list (l.map fun p => mD p.1)), .no] row0 = _
  match l, hl, he, ha with
  | [], _, _, _ => rfl
  | [a], _, _, _ =>
    have c0 : fBin gSubI (fCall gLen (aCons (fBor 0) aNil)) (fC (.int 1)) [.va (.list [mD a.1]), .no] row0 = some (.int ((0 : Nat) : Int), row0) := fB (fK (aC1 (vB rfl)) (r := .int 1) rfl) rfl rfl
    have c : fOfX (xLc (fRg1 (fBin gSubI (fCall gLen (aCons (fBor 0) aNil)) (fC (.int 1)))) (gtName 1) tYesF (fBin gLtX (fBin gAt (fBor 0) (fBor 1)) (fBin gAt (fBor 0) (fBin gAdd (fBor 1) (fC (.int 1))))) [1]) [.va (.list [mD a.1]), .no] row0 = some (.list [], row0) := lc_eq (ds := rgD 0 0) (rg1 c0 (by omega)) rfl (nob_n (Nat.zero_le _))
    exact sR (fK (aC1 c) rfl)
  | [a, b], _, he, ha =>
    have hab : mlt a.1 b.1 := (List.pairwise_cons.mp ha).1 b (by simp)
    have ea := (he a (by simp)).mok
    have eb := (he b (by simp)).mok
    have hs1 := (pt_m ea (by decide)).sh (by omega)
    have hs2 := (pt_m eb (by decide)).sh (by omega)
    have hk := m_alike (ea.1.trans eb.1.symm)
    have hn : isNoneD (mD a.1) = false := rfl
    have g1 : gLtX (mD a.1) (mD b.1) = some (.bool true) := by
      have : gLt (mD a.1) (mD b.1) = none := by
        obtain ⟨k, o, w, e, _⟩ := he a (by simp)
        rw [e]; rfl
      simp only [gLtX, gOr, this, gLtD, hs1, hs2, hk, hn, hab.1, Bool.not_false, Bool.and_self, if_true]
    have c : fOfX (xLc (fRg1 (fBin gSubI (fCall gLen (aCons (fBor 0) aNil)) (fC (.int 1)))) (gtName 1) tYesF (fBin gLtX (fBin gAt (fBor 0) (fBor 1)) (fBin gAt (fBor 0) (fBin gAdd (fBor 1) (fC (.int 1))))) [1]) [.va (.list [mD a.1, mD b.1]), .no] row0 = some (.list [.bool true], row0) := by
      have c0 : fBin gSubI (fCall gLen (aCons (fBor 0) aNil)) (fC (.int 1)) [.va (.list [mD a.1, mD b.1]), .no] row0 = some (.int ((1 : Nat) : Int), row0) := fB (fK (aC1 (vB rfl)) (r := .int 2) rfl) rfl rfl
      refine lc_eq (ds := [.int 0]) (rg1 c0 (by omega)) ?_ (nob_n (by simp))
      have q : fBin gLtX (fBin gAt (fBor 0) (fBor 1)) (fBin gAt (fBor 0) (fBin gAdd (fBor 1) (fC (.int 1)))) [.va (.list [mD a.1, mD b.1]), .va (.int 0)] row0 = some (.bool true, row0) := fB (fB (vB rfl) (vB rfl) atI_z0) (fB (vB rfl) (fB (vB rfl) rfl (r := .int 1) rfl) atI_z1) g1
      have : compL (gtName 1) tYesF (fBin gLtX (fBin gAt (fBor 0) (fBor 1)) (fBin gAt (fBor 0) (fBin gAdd (fBor 1) (fC (.int 1))))) [.va (.list [mD a.1, mD b.1]), .no] [.int 0] row0 = some ([.bool true], row0) := by
        rw [compL, show gtName 1 (D.int 0) [.va (.list [mD a.1, mD b.1]), .no] = some [.va (.list [mD a.1, mD b.1]), .va (.int 0)] from rfl]
        simp only [tYesF, q, compL]
      exact this
    exact sR (fK (aC1 c) (by simp [gAll, bools]))
  | [a, b, c], _, he, ha =>
    have hab : mlt a.1 b.1 := (List.pairwise_cons.mp ha).1 b (by simp)
    have hbc : mlt b.1 c.1 := (List.pairwise_cons.mp (List.pairwise_cons.mp ha).2).1 c (by simp)
    have g1 := ltX_ev (he a (by simp)) (he b (by simp)) hab
    have g2 := ltX_ev (he b (by simp)) (he c (by simp)) hbc
    have q : fOfX (xLc (fRg1 (fBin gSubI (fCall gLen (aCons (fBor 0) aNil)) (fC (.int 1)))) (gtName 1) tYesF (fBin gLtX (fBin gAt (fBor 0) (fBor 1)) (fBin gAt (fBor 0) (fBin gAdd (fBor 1) (fC (.int 1))))) [1]) [.va (.list [mD a.1, mD b.1, mD c.1]), .no] row0 = some (.list [.bool true, .bool true], row0) := by
      have c0 : fBin gSubI (fCall gLen (aCons (fBor 0) aNil)) (fC (.int 1)) [.va (.list [mD a.1, mD b.1, mD c.1]), .no] row0 = some (.int ((2 : Nat) : Int), row0) := fB (fK (aC1 (vB rfl)) (r := .int 3) rfl) rfl rfl
      refine lc_eq (ds := [.int 0, .int 1]) (rg1 c0 (by omega)) ?_ (nob_n (by simp))
      have q1 : fBin gLtX (fBin gAt (fBor 0) (fBor 1)) (fBin gAt (fBor 0) (fBin gAdd (fBor 1) (fC (.int 1)))) [.va (.list [mD a.1, mD b.1, mD c.1]), .va (.int 0)] row0 = some (.bool true, row0) := fB (fB (vB rfl) (vB rfl) atI_z0) (fB (vB rfl) (fB (vB rfl) rfl (r := .int 1) rfl) atI_z1) g1
      have q2 : fBin gLtX (fBin gAt (fBor 0) (fBor 1)) (fBin gAt (fBor 0) (fBin gAdd (fBor 1) (fC (.int 1)))) [.va (.list [mD a.1, mD b.1, mD c.1]), .va (.int 1)] row0 = some (.bool true, row0) := fB (fB (vB rfl) (vB rfl) atI_z1) (fB (vB rfl) (fB (vB rfl) rfl (r := .int 2) rfl) (atI_nat (i := 2) rfl)) g2
      have : compL (gtName 1) tYesF (fBin gLtX (fBin gAt (fBor 0) (fBor 1)) (fBin gAt (fBor 0) (fBin gAdd (fBor 1) (fC (.int 1))))) [.va (.list [mD a.1, mD b.1, mD c.1]), .no] [.int 0, .int 1] row0 = some ([.bool true, .bool true], row0) := by
        rw [compL, show gtName 1 (D.int 0) [.va (.list [mD a.1, mD b.1, mD c.1]), .no] = some [.va (.list [mD a.1, mD b.1, mD c.1]), .va (.int 0)] from rfl]
        simp only [tYesF, q1]
        rw [compL, show gtName 1 (D.int 1) [.va (.list [mD a.1, mD b.1, mD c.1]), .no] = some [.va (.list [mD a.1, mD b.1, mD c.1]), .va (.int 1)] from rfl]
        simp only [tYesF, q2, compL]
      exact this
    exact sR (fK (aC1 q) (by simp [gAll, bools]))
theorem is_state_ok {m : Nat} {s : StT} (h : StOk m s) : m_is_state [eSta s, .int m] = some (.bool true) := by
  refine mkF_rt (x := row0) rfl ?_
  have c1 : sIf (tNotF (fTru (fCall m_has_items (aCons (fVar 0) (aCons (fC (.int 2)) (aCons (fC (.int 2)) aNil)))))) (sRet (fC (.bool false))) sNil [.va (eSta s), .va (.int m), .no, .no, .no] row0 = some (.nx [.va (eSta s), .va (.int m), .no, .no, .no], row0) := by
    have := fK (x := row0) (env := [.va (eSta s), .va (.int m), .no, .no, .no]) (aC3 (vV (i := 0) rfl) (show fC (.int 2) _ _ = some (.int 2, row0) from rfl) (show fC (.int 2) _ _ = some (.int 2, row0) from rfl)) (has_items_eq [.bool s.1, .tuple (s.2.map eSt)] 2 2)
    simp only [sIf, tNotF, fTru, this, truD]
    rfl
  have c2 : sUnp (fVar 0) (gtTup 2 (gtCons (gtName 2) (gtCons (gtName 3) gtNil))) [.va (eSta s), .va (.int m), .no, .no, .no] row0 = some (.nx [.va (eSta s), .va (.int m), .va (.bool s.1), .va (.tuple (s.2.map eSt)), .no], row0) := rfl
  have c3 : sIf (tOrF (tNotF (fTru (fIsi .bool (fBor 2)))) (tNotF (fTru (fIsi .tuple (fBor 3))))) (sRet (fC (.bool false))) sNil [.va (eSta s), .va (.int m), .va (.bool s.1), .va (.tuple (s.2.map eSt)), .no] row0 = some (.nx [.va (eSta s), .va (.int m), .va (.bool s.1), .va (.tuple (s.2.map eSt)), .no], row0) := by
    simp [sIf, tOrF, tNotF, fTru, fIsi, fBor, isiD, truD, sNil]
  have hlen : (s.2.map fun _ => D.bool true).length < maxLen := by rw [List.length_map]; exact nob_n (by have := h.l; omega)
  have l1 : fOfX (xLc (fSeq (fVar 3)) (gtName 4) tYesF (fCall m_is_step (aCons (fVar 4) (aCons (fVar 1) aNil))) [4]) [.va (eSta s), .va (.int m), .va (.bool s.1), .va (.tuple (s.2.map eSt)), .no] row0 = some (.list (s.2.map fun _ => .bool true), row0) :=
    lc_eq (ds := s.2.map eSt) (sqT (vV rfl)) (compL_map eSt _ s.2 fun p hp => ⟨_, rfl, rfl, fK (aC2 (vV rfl) (vV rfl)) (is_step_ok (h.e p hp) (h.t p hp))⟩) hlen
  have hall : gAll [.list (s.2.map fun _ => D.bool true)] = some (.bool true) := by
    have := bools_map (fun _ : Mk × Int => true) s.2
    simp only [gAll, this]
    congr 2
    rw [List.all_eq_true]
    intro b hb
    obtain ⟨_, _, rfl⟩ := List.mem_map.mp hb
    rfl
  have c4 : sIf (tNotF (fTru (fCall gAll (aCons (fOfX (xLc (fSeq (fVar 3)) (gtName 4) tYesF (fCall m_is_step (aCons (fVar 4) (aCons (fVar 1) aNil))) [4])) aNil)))) (sRet (fC (.bool false))) sNil [.va (eSta s), .va (.int m), .va (.bool s.1), .va (.tuple (s.2.map eSt)), .no] row0 = some (.nx [.va (eSta s), .va (.int m), .va (.bool s.1), .va (.tuple (s.2.map eSt)), .no], row0) := by
    have := fK (aC1 l1) hall
    simp only [sIf, tNotF, fTru, this, truD, Bool.not_true, sNil]
  have l2 : fOfX (xLc (fSeq (fVar 3)) (gtName 4) tYesF (fSl (fBor 4) oNone (oSome (fC (.int 3)))) [4]) [.va (eSta s), .va (.int m), .va (.bool s.1), .va (.tuple (s.2.map eSt)), .no] row0 = some (.list (s.2.map fun p => mD p.1), row0) :=
    lc_eq (ds := s.2.map eSt) (sqT (vV rfl)) (compL_map eSt _ s.2 fun p hp => ⟨_, rfl, rfl, sl3 (h.e p hp) (vB rfl)⟩) (by rw [List.length_map]; exact nob_n (by have := h.l; omega))
  show b_is_state [.va (eSta s), .va (.int m), .no, .no, .no] row0 = _
  unfold b_is_state
  rw [sSeq_nx c1, sSeq_nx c2, sSeq_nx c3, sSeq_nx c4]
  exact sR (fK (aC1 l2) (rising_le2 h.l h.e h.a))
theorem check_part_ok (h : POk ps) : m_check_part [ePa ps] = some .none := by
  have hn := h.n
  obtain ⟨e3, h4, p, q, rfl⟩ := forL_ix (gt := gtTup 2 (gtCons (gtName 1) (gtCons (gtName 2) gtNil))) (b := sIf (tNotF (fTru (fCall m_is_state (aCons (fVar 2) (aCons (fCall gLen (aCons (fBor 0) aNil)) aNil))))) sNo sNil) (x := row0) (fun p : StT × Nat => D.tuple [.int (p.2 : Int), eSta p.1]) ps.zipIdx (fun _ env => ∃ p q, env = [.va (ePa ps), p, q]) [.va (ePa ps), .no, .no] ⟨_, _, rfl⟩ (by
    rintro i hi _ ⟨p, q, rfl⟩
    rw [List.length_zipIdx] at hi
    rw [List.getElem_zipIdx]
    have : fCall m_is_state (aCons (fVar 2) (aCons (fCall gLen (aCons (fBor 0) aNil)) aNil)) [.va (ePa ps), .va (.int ((0 + i : Nat) : Int)), .va (eSta ps[i])] row0 = some (.bool true, row0) := fK (aC2 (vV rfl) (fK (aC1 (vB rfl)) (by simp only [gLen, ePa, List.length_map]))) (is_state_ok (h.s _ (List.getElem_mem hi)))
    refine ⟨[.va (ePa ps), .va (.int ((0 + i : Nat) : Int)), .va (eSta ps[i])], [.va (ePa ps), .va (.int ((0 + i : Nat) : Int)), .va (eSta ps[i])], rfl, ?_, _, _, rfl⟩
    simp only [sIf, tNotF, fTru, this, truD, Bool.not_true, sNil])
  refine mkF_nx (e := [.va (ePa ps), p, q]) (x := row0) rfl ?_
  show b_check_part [.va (ePa ps), .no, .no] row0 = _
  have c1 : sIf (tNotF (fTru (fCall m_has_items (aCons (fVar 0) (aCons (fC (.int 1)) (aCons (fC (.int 255)) aNil)))))) sNo sNil [.va (ePa ps), .no, .no] row0 = some (.nx [.va (ePa ps), .no, .no], row0) := by
    have := fK (x := row0) (env := [.va (ePa ps), .no, .no]) (aC3 (vV (i := 0) rfl) (show fC (.int 1) _ _ = some (.int 1, row0) from rfl) (show fC (.int 255) _ _ = some (.int 255, row0) from rfl)) (has_items_eq (ps.map eSta) 1 255)
    have h1 : decide ((1 : Int) ≤ ((ps.map eSta).length : Int)) = true := by rw [List.length_map]; simp only [decide_eq_true_eq]; omega
    have h2 : decide (((ps.map eSta).length : Int) ≤ 255) = true := by rw [List.length_map]; simp only [decide_eq_true_eq]; omega
    rw [h1, h2] at this
    simp only [sIf, tNotF, fTru, this, truD, Bool.and_self, Bool.not_true, sNil]
  unfold b_check_part
  rw [sSeq_nx c1]
  refine for_eq (ds := enD (ps.map eSta)) (x1 := row0) ?_ ?_
  · simp only [fEn, vV (show [FSl.va (ePa ps), .no, .no][0]? = some (.va (ePa ps)) from rfl)]; rfl
  · rw [enD_map]; exact h4
theorem dropP (h : POk ps) {rest : List FSl} {x : FRow} : sDrop (fCall m_check_part (aCons (fVar 0) aNil)) (.va (ePa ps) :: rest) x = some (.nx (.va (ePa ps) :: rest), x) := by
  have := fK (x := x) (env := .va (ePa ps) :: rest) (aC1 (vV (i := 0) rfl)) (check_part_ok h)
  simp only [sDrop, this]
end Lp
namespace Lp
open Lw
open PySem RT Wb6
variable {ps : List StT}
/-! trimmed_part -/
/-! others, may_rest, is_plain -/
def rests (ps : List StT) (v : Int) : Bool := (staAt ps v).1
/-! runs, resting_runs, behind -/
end Lp
namespace Lp
open Lw
open PySem RT Wb6
/-! marks of one shape: one of two is less -/
theorem kpy_ne {a b : L2.Key} (h : a.isLeft = b.isLeft) (hn : a ≠ b) : PyData.eqv (keyD a).py (keyD b).py = false := by
  cases a <;> cases b <;> simp_all [keyD, D.py, PyData.eqv]
theorem kpy_tot {a b : L2.Key} (h : a.isLeft = b.isLeft) (hn : a ≠ b) : PySem.W.dataLt (keyD a).py (keyD b).py = true ∨ PySem.W.dataLt (keyD b).py (keyD a).py = true := by
  cases h1 : PySem.W.dataLt (keyD a).py (keyD b).py with
  | true => exact Or.inl rfl
  | false =>
    cases h2 : PySem.W.dataLt (keyD b).py (keyD a).py with
    | true => exact Or.inr rfl
    | false =>
      have := PyProof.Rows.lex_total _ _ h1 h2
      exfalso
      cases a with
      | inl i =>
        cases b with
        | inl j => simp [keyD, D.py, PySem.W.keyToks] at this; exact hn (by rw [this])
        | inr s => simp at h
      | inr s =>
        cases b with
        | inl j => simp at h
        | inr t =>
          simp only [keyD, D.py, PySem.W.keyToks, List.cons.injEq, Sum.inr.injEq, and_true] at this
          exact hn (by rw [PySem.W.str_of_cps this])
theorem keys_no : ∀ {a b : Mk} (A B : List PyData), shp a = shp b → a ≠ b → PyProof.Rows.lexLt PyProof.Rows.itemOrd (PySem.W.keyToksAll (pyAll (a.map keyD) ++ A)) (PySem.W.keyToksAll (pyAll (b.map keyD) ++ B)) = PyProof.Rows.lexLt PyProof.Rows.itemOrd (PySem.W.keyToksAll (pyAll (a.map keyD))) (PySem.W.keyToksAll (pyAll (b.map keyD)))
  | [], [], _, _, _, hn => absurd rfl hn
  | x :: a, y :: b, A, B, h, hn => by
    simp only [shp, List.map_cons, List.cons.injEq] at h
    simp only [List.map_cons, pyAll, List.cons_append]
    have ea := key_alike h.1
    by_cases c : x = y
    · subst c
      have er := PySem.W.eqv_refl_alike _ ea
      rw [PySem.W.dataLt_all_yes ea er, PySem.W.dataLt_all_yes ea er]
      exact keys_no A B h.2 (fun e => hn (by rw [e]))
    · have en := kpy_ne h.1 c
      rw [PySem.W.dataLt_all_no ea en, PySem.W.dataLt_all_no ea en]
  | [], _ :: _, _, _, h, _ => by simp [shp] at h
  | _ :: _, [], _, _, h, _ => by simp [shp] at h
theorem keys_tot : ∀ {a b : Mk}, shp a = shp b → a ≠ b → (PyProof.Rows.lexLt PyProof.Rows.itemOrd (PySem.W.keyToksAll (pyAll (a.map keyD))) (PySem.W.keyToksAll (pyAll (b.map keyD))) = true ∨ PyProof.Rows.lexLt PyProof.Rows.itemOrd (PySem.W.keyToksAll (pyAll (b.map keyD))) (PySem.W.keyToksAll (pyAll (a.map keyD))) = true) ∧ PyData.eqvAll (pyAll (a.map keyD)) (pyAll (b.map keyD)) = false
  | [], [], _, hn => absurd rfl hn
  | x :: a, y :: b, h, hn => by
    simp only [shp, List.map_cons, List.cons.injEq] at h
    simp only [List.map_cons, pyAll]
    have ea := key_alike h.1
    have eb := key_alike h.1.symm
    by_cases c : x = y
    · subst c
      have er := PySem.W.eqv_refl_alike _ ea
      rw [PySem.W.dataLt_all_yes ea er, PySem.W.dataLt_all_yes ea er, PyData.eqvAll, er]
      have := keys_tot (a := a) (b := b) h.2 (fun e => hn (by rw [e]))
      exact ⟨this.1, by simpa using this.2⟩
    · have en := kpy_ne h.1 c
      have en' := kpy_ne h.1.symm (fun e => c e.symm)
      rw [PySem.W.dataLt_all_no ea en, PySem.W.dataLt_all_no eb en', PyData.eqvAll, en]
      exact ⟨kpy_tot h.1 c, rfl⟩
  | [], _ :: _, h, _ => by simp [shp] at h
  | _ :: _, [], h, _ => by simp [shp] at h
theorem mk_tot {a b : Mk} (h : shp a = shp b) (hn : a ≠ b) : mlt a b ∨ mlt b a := by
  have h1 := keys_tot h hn
  have h2 := keys_tot h.symm (fun e => hn e.symm)
  rcases h1.1 with c | c
  · left
    exact ⟨by simpa only [PySem.W.dataLt, mD, D.py, PySem.W.keyToks] using c, by simpa only [mD, D.py, PyData.eqv] using h1.2⟩
  · right
    exact ⟨by simpa only [PySem.W.dataLt, mD, D.py, PySem.W.keyToks] using c, by simpa only [mD, D.py, PyData.eqv] using h2.2⟩
theorem pyAll_app (a b : List D) : pyAll (a ++ b) = pyAll a ++ pyAll b := by
  induction a with
  | nil => rfl
  | cons x a ih => simp only [List.cons_append, pyAll, ih]
theorem eSt_lt {p q : Mk × Int} (h : shp p.1 = shp q.1) (hn : p.1 ≠ q.1) : PySem.W.dataLt (eSt p).py (eSt q).py = PySem.W.dataLt (mD p.1).py (mD q.1).py := by
  simp only [PySem.W.dataLt, eSt, mD, D.py, PySem.W.keyToks, pyAll_app]
  exact keys_no _ _ h hn
theorem mlt_asym {a b : Mk} (h : mlt a b) : PySem.W.dataLt (mD b).py (mD a).py = false := by
  cases c : PySem.W.dataLt (mD b).py (mD a).py with
  | false => rfl
  | true =>
    have := PyProof.Rows.lex_trans _ _ _ h.1 c
    rw [PyProof.Rows.lex_irrefl] at this; cases this
/-! drawn parts: what the dict of heads holds -/
def hdS (acc : List (Mk × Int)) : List (D × D) := acc.map fun p => (mD p.1, .int p.2)
def hasK (acc : List (Mk × Int)) (m : Mk) : Bool := acc.any fun p => decide (p.1 = m)
theorem hasK_iff (acc : List (Mk × Int)) (m : Mk) : hasK acc m = true ↔ m ∈ acc.map (·.1) := by
  unfold hasK
  rw [List.any_eq_true, List.mem_map]
  simp
def putA (acc : List (Mk × Int)) (m : Mk) (t : Int) : List (Mk × Int) := if hasK acc m = true then acc.map fun p => if p.1 = m then (m, t) else p else acc ++ [(m, t)]
theorem put_hdS (acc : List (Mk × Int)) (m : Mk) (t : Int) : putD dKeyT (hdS acc) (mD m) m (.int t) = hdS (putA acc m t) := by
  unfold putD putA
  have : ((hdS acc).any fun q => decide (dKeyT q.1 = some m)) = hasK acc m := by
    unfold hdS hasK
    rw [List.any_map]
    congr 1
    funext p
    simp [Function.comp, dKeyT_m]
  rw [this]
  by_cases c : hasK acc m = true
  · rw [if_pos c, if_pos c]
    unfold hdS
    rw [List.map_map, List.map_map]
    refine List.map_congr_left fun p _ => ?_
    simp only [Function.comp, dKeyT_m, Option.some.injEq]
    by_cases e : p.1 = m <;> simp [e]
  · rw [if_neg c, if_neg c]
    simp [hdS]
theorem putA_keys (acc : List (Mk × Int)) (m : Mk) (t : Int) : (putA acc m t).map (·.1) = if hasK acc m = true then acc.map (·.1) else acc.map (·.1) ++ [m] := by
  unfold putA
  split
  · rw [List.map_map]
    refine List.map_congr_left fun p _ => ?_
    simp only [Function.comp]
    by_cases e : p.1 = m <;> simp [e]
  · simp
theorem putA_mem {acc : List (Mk × Int)} {m : Mk} {t : Int} {p : Mk × Int} (h : p ∈ putA acc m t) : p ∈ acc ∨ p = (m, t) := by
  unfold putA at h
  split at h
  · obtain ⟨q, hq, e⟩ := List.mem_map.mp h
    by_cases c : q.1 = m
    · rw [if_pos c] at e; exact Or.inr e.symm
    · rw [if_neg c] at e; exact Or.inl (e ▸ hq)
  · rcases List.mem_append.mp h with h | h
    · exact Or.inl h
    · exact Or.inr (by simpa using h)
theorem putA_len (acc : List (Mk × Int)) (m : Mk) (t : Int) : (putA acc m t).length ≤ acc.length + 1 := by
  unfold putA; split <;> simp
theorem putA_nd {acc : List (Mk × Int)} (h : (acc.map (·.1)).Nodup) (m : Mk) (t : Int) : ((putA acc m t).map (·.1)).Nodup := by
  rw [putA_keys]
  split
  · exact h
  · rename_i c
    rw [List.nodup_append]
    exact ⟨h, by simp, fun a ha b hb e => c ((hasK_iff acc m).mpr (by rw [List.mem_singleton] at hb; rw [← hb, ← e]; exact ha))⟩
def evDr (m : Mk) : Prop := ∃ k o w, m = [.inr k, .inl o, .inl w] ∧ (k = hearS ∨ k = sayS) ∧ (o = 1 ∨ o = 2) ∧ (w = 0 ∨ w = 1)
theorem evDr.ok {m : Mk} (h : evDr m) : evOk m := by
  obtain ⟨k, o, w, rfl, hk, ho, hw⟩ := h
  exact ⟨k, o, w, rfl, hk, by omega, by omega⟩
structure AccOk (m : Nat) (acc : List (Mk × Int)) : Prop where
  nd : (acc.map (·.1)).Nodup
  e : ∀ p ∈ acc, evDr p.1
  t : ∀ p ∈ acc, 0 ≤ p.2 ∧ p.2 < (m : Int)
theorem AccOk.put {m : Nat} {acc : List (Mk × Int)} (h : AccOk m acc) {k : Mk} {t : Int} (hk : evDr k) (ht : 0 ≤ t ∧ t < (m : Int)) : AccOk m (putA acc k t) where
  nd := putA_nd h.nd k t
  e := fun p hp => by
    rcases putA_mem hp with hp | rfl
    · exact h.e p hp
    · exact hk
  t := fun p hp => by
    rcases putA_mem hp with hp | rfl
    · exact h.t p hp
    · exact ht
theorem val_hdS (acc : List (Mk × Int)) (m : Mk) : valD dKeyT (hdS acc) m = (acc.find? fun p => decide (p.1 = m)).map fun p => .int p.2 := val_st acc m
theorem eSt_cat {p : Mk × Int} (h : evOk p.1) : gAdd (mD p.1) (.tuple [.int p.2]) = some (eSt p) := by
  have : (p.1.map keyD).length + 1 ≤ maxLen := by rw [List.length_map, h.len]; exact ml 4 (by omega)
  simp only [gAdd, gOr, gI, mD, gCatT, List.length_singleton, if_pos this, eSt]
theorem pt_eSt {p : Mk × Int} (h : evOk p.1) : Pt 1 (eSt p) := Or.inr ⟨p.1.map keyD ++ [.int p.2], Or.inl rfl, by rw [List.length_append, List.length_map, h.len, List.length_singleton]; omega, by
  intro e he
  rcases List.mem_append.mp he with he | he
  · obtain ⟨k, hk, rfl⟩ := List.mem_map.mp he
    exact pt_key (h.mok.2 k hk)
  · rw [List.mem_singleton] at he; subst he; exact Or.inr (Or.inl ⟨_, rfl⟩)⟩
theorem eSt_alike {p q : Mk × Int} (h : shp p.1 = shp q.1) : PySem.W.alike (eSt p).py (eSt q).py = true := by
  have : ∀ {a b : Mk}, shp a = shp b → ∀ i j : Int, PySem.W.alikeAll (pyAll (a.map keyD ++ [.int i])) (pyAll (b.map keyD ++ [.int j])) = true := by
    intro a
    induction a with
    | nil => intro b h i j; cases b with
      | nil => simp [pyAll, PySem.W.alikeAll, D.py, PySem.W.alike]
      | cons _ _ => simp [shp] at h
    | cons x a ih => intro b h i j; cases b with
      | nil => simp [shp] at h
      | cons y b =>
        simp only [shp, List.map_cons, List.cons.injEq] at h
        simp only [List.map_cons, List.cons_append, pyAll, PySem.W.alikeAll, key_alike h.1, Bool.true_and]
        exact ih h.2 i j
  simp only [eSt, D.py, PySem.W.alike, this h]
theorem sort_steps {m : Nat} {acc : List (Mk × Int)} (h : AccOk m acc) (hl : acc.length ≤ 2) : ∃ st : List (Mk × Int), gSortX [.list (acc.map eSt)] = some (.list (st.map eSt)) ∧ st.length = acc.length ∧ (∀ p ∈ st, p ∈ acc) ∧ st.Pairwise fun p q => mlt p.1 q.1 := by
  match acc, h, hl with
  | [], _, _ => exact ⟨[], rfl, rfl, by simp, by simp⟩
  | [a], h, _ =>
    refine ⟨[a], ?_, rfl, by simp, by simp⟩
    obtain ⟨k, o, w, e, _⟩ := h.e a (by simp)
    have : gSort [.list [eSt a]] = none := by
      rw [eSt, e]
      exact sort_none rfl
    simp only [List.map_cons, List.map_nil, gSortX, cOr, this, gSort1, List.length_singleton, Nat.le_refl, if_true]
  | [a, b], h, _ =>
    have ha := (h.e a (by simp)).ok
    have hb := (h.e b (by simp)).ok
    have hsh : shp a.1 = shp b.1 := ha.mok.1.trans hb.mok.1.symm
    have hne : a.1 ≠ b.1 := by
      have := h.nd
      simp only [List.map_cons, List.map_nil, List.nodup_cons, List.mem_singleton] at this
      exact this.1
    have hd : gSortD [.list [eSt a, eSt b]] = some (.list ([eSt a, eSt b].mergeSort leD)) := by
      have s1 : shapedD (.list [eSt a, eSt b]) = true := (pt_list (k := 1) (by simp) (by
        intro d hd
        rcases List.mem_cons.mp hd with rfl | hd
        · exact pt_eSt ha
        · rw [List.mem_singleton] at hd; subst hd; exact pt_eSt hb)).sh (by omega)
      have s2 : sortableB [eSt a, eSt b] = true := by
        obtain ⟨k, o, w, e, _⟩ := ha
        obtain ⟨k', o', w', e', _⟩ := hb
        simp [sortableB, eSt, e, e']
      have s3 : alikeB ([a, b].map eSt) = true := alikeB_of fun p hp q hq => eSt_alike (by
        have e1 : ∀ z ∈ [a, b], shp z.1 = S4 := fun z hz => by
          rcases List.mem_cons.mp hz with rfl | hz
          · exact ha.mok.1
          · rw [List.mem_singleton] at hz; subst hz; exact hb.mok.1
        exact (e1 p hp).trans (e1 q hq).symm)
      have s4 : decide ([eSt a, eSt b].length ≤ maxLen) = true := decide_eq_true two_ml
      simp only [gSortD, s1, s2, s4, show alikeB [eSt a, eSt b] = true from s3, Bool.and_self, if_true]
    have hn : gSort [.list [eSt a, eSt b]] = none := by
      obtain ⟨k, o, w, e, _⟩ := ha
      rw [eSt, e]
      exact sort_none rfl
    have hX : gSortX [.list [eSt a, eSt b]] = some (.list ([eSt a, eSt b].mergeSort leD)) := by
      simp only [gSortX, cOr, hn, gSort1, List.length_cons, List.length_nil, hd]
      rfl
    have l1 := eSt_lt hsh hne
    have l2 := eSt_lt (p := b) (q := a) hsh.symm (fun e => hne e.symm)
    rcases mk_tot hsh hne with c | c
    · refine ⟨[a, b], ?_, rfl, by simp, by simpa using c⟩
      have hle : leD (eSt a) (eSt b) = true := by unfold leD; rw [l2, mlt_asym c]; rfl
      rw [List.map_cons, List.map_cons, List.map_nil, hX]
      rw [List.mergeSort_of_pairwise (by simpa using hle)]
    · refine ⟨[b, a], ?_, rfl, by simp, by simpa using c⟩
      have hle : leD (eSt b) (eSt a) = true := by unfold leD; rw [l1, mlt_asym c]; rfl
      have hle' : leD (eSt a) (eSt b) = false := by unfold leD; rw [l2, c.1]; rfl
      rw [List.map_cons, List.map_cons, List.map_nil, hX]
      congr 2
      simp [List.mergeSort, List.MergeSort.Internal.splitInTwo, List.merge, hle']
end Lp
namespace Lp
open Lw
open PySem RT Wb6
theorem forL_rgR {gt : FGt} {b : FS} (n : Nat) (E : Nat → FEn → FRow → Prop) (env : FEn) (x : FRow) (r : E 0 env x) (h : ∀ i, i < n → ∀ env x, E i env x → ∃ e e2 x2, gt (.int (i : Nat)) env = some e ∧ b e x = some (.nx e2, x2) ∧ E (i + 1) e2 x2) :
    ∃ e x', forL gt b (rgD 0 n) env x = some (.nx e, x') ∧ E n e x' := by
  rw [rgD_map]
  have aux : ∀ (m k : Nat), k + m = n → ∀ env x, E k env x → ∃ e x', forL gt b (((List.range n).drop k).map fun (i : Nat) => D.int (i : Int)) env x = some (.nx e, x') ∧ E n e x' := by
    intro m
    induction m with
    | zero =>
      intro k hk env x r
      have : k = n := by omega
      subst this
      exact ⟨env, x, by rw [List.drop_eq_nil_of_le (by simp)]; rfl, r⟩
    | succ m ih =>
      intro k hk env x r
      obtain ⟨e, e2, x2, h1, h2, h3⟩ := h k (by omega) env x r
      obtain ⟨e3, x', h4, h5⟩ := ih (k + 1) (by omega) e2 x2 h3
      refine ⟨e3, x', ?_, h5⟩
      rw [List.drop_eq_getElem_cons (by simp; omega), List.map_cons, List.getElem_range, forL, h1]
      simp only [h2]
      exact h4
  exact aux n 0 (by omega) env x r
theorem compL_rowG {α : Type} (enc : α → D) {gt : FGt} {t : FT} {fe : FE} {env : FEn} (Good : α → Prop) : ∀ (l : List D), (∀ d ∈ l, ∀ x : FRow, 0 ≤ x.a → ∃ e a x', gt d env = some e ∧ t e x = some (true, x) ∧ fe e x = some (enc a, x') ∧ 0 ≤ x'.a ∧ Good a) → ∀ x : FRow, 0 ≤ x.a → ∃ (as : List α) (x' : FRow), compL gt t fe env l x = some (as.map enc, x') ∧ 0 ≤ x'.a ∧ as.length = l.length ∧ ∀ a ∈ as, Good a
  | [], _, x, hx => ⟨[], x, rfl, hx, rfl, by simp⟩
  | d :: l, h, x, hx => by
    obtain ⟨e, a, x1, h1, h2, h3, h4, h5⟩ := h d (by simp) x hx
    obtain ⟨as, x2, g1, g2, g3, g4⟩ := compL_rowG enc Good l (fun b hb => h b (by simp [hb])) x1 h4
    refine ⟨a :: as, x2, by simp [compL, h1, h2, h3, g1], g2, by simp [g3], ?_⟩
    intro z hz
    rcases List.mem_cons.mp hz with rfl | hz
    · exact h5
    · exact g4 z hz
abbrev PickE : FE := fCallR 0 m_law_pick (aCons (fLst (aCons (fC (.str (Str.ofString "hear"))) (aCons (fC (.str (Str.ofString "say"))) aNil))) aNil)
theorem pick_k {env : FEn} (h0 : env[0]? = some .rw) {x : FRow} (hx : 0 ≤ x.a) : ∃ k x', PickE env x = some (.str k, x') ∧ (k = hearS ∨ k = sayS) ∧ 0 ≤ x'.a := by
  obtain ⟨d, x', hd, hp, hx'⟩ := pick_ok (l := [.str hearS, .str sayS]) (by simp) (by simp) hx
  have q := fCallR_eq (i := 0) (env := env) (x := x) h0 (aCons1 (fLst_ok (aC2 (fa := fC (.str hearS)) (fb := fC (.str sayS)) rfl rfl) two_ml)) hp
  simp only [List.mem_cons, List.not_mem_nil, or_false] at hd
  rcases hd with rfl | rfl
  · exact ⟨hearS, x', q, Or.inl rfl, hx'⟩
  · exact ⟨sayS, x', q, Or.inr rfl, hx'⟩
theorem takE {env : FEn} {i : Nat} (h0 : env[i]? = some .rw) {x : FRow} (hx : 0 ≤ x.a) {f : FE} {many : Int} (hf : f env x = some (.int many, x)) (h1 : 0 < many) (h2 : many < 1073741824) : ∃ r x', fCallR i m_law_taken (aCons f aNil) env x = some (.int r, x') ∧ (0 ≤ r ∧ r < many) ∧ 0 ≤ x'.a := by
  obtain ⟨r, x', e, a, b, c⟩ := taken_ok (many := many) hx h1 h2
  exact ⟨r, x', fCallR_eq h0 (aCons1 hf) e, ⟨a, b⟩, c⟩
def sE (size : Int) (pl : Bool) (k : Str) (acc : List (Mk × Int)) (p5 : FSl) : FEn := [.rw, .va (.int size), .va (.bool pl), .va (.str k), .ow (.dt (hdS acc)), p5, .no, .no]
abbrev sTurn : FS := sSeq (sSet 3 (xVal (fIf (fTru (fBor 2)) (fVar 3) PickE)))
    (sDPut 4 (fTup (aCons (fVar 3) (aCons (fBin gAdd (fC (.int 1)) (fCallR 0 m_law_taken (aCons (fC (.int 2)) aNil))) (aCons (fCallR 0 m_law_taken (aCons (fC (.int 2)) aNil)) aNil)))) (fCallR 0 m_law_taken (aCons (fVar 1) aNil)))
theorem s_turn {size : Nat} (hz : 1 ≤ size ∧ size ≤ 100) {pl : Bool} {k : Str} (hk : k = hearS ∨ k = sayS) {acc : List (Mk × Int)} (ha : AccOk size acc) (hl : acc.length ≤ 100) (p5 : FSl) {x : FRow} (hx : 0 ≤ x.a) :
    ∃ k' acc' x', sTurn (sE size pl k acc p5) x = some (.nx (sE size pl k' acc' p5), x') ∧ (k' = hearS ∨ k' = sayS) ∧ AccOk size acc' ∧ acc'.length ≤ acc.length + 1 ∧ 0 ≤ x'.a := by
  have hk1 : ∃ k1 x1, fIf (fTru (fBor 2)) (fVar 3) PickE (sE size pl k acc p5) x = some (.str k1, x1) ∧ (k1 = hearS ∨ k1 = sayS) ∧ 0 ≤ x1.a := by
    have t : fTru (fBor 2) (sE size pl k acc p5) x = some (pl, x) := rfl
    cases pl with
    | true => exact ⟨k, x, by simp only [fIf, t]; rfl, hk, hx⟩
    | false =>
      obtain ⟨k1, x1, e, h1, h2⟩ := pick_k (env := sE size false k acc p5) rfl hx
      exact ⟨k1, x1, by simp only [fIf, t]; exact e, h1, h2⟩
  obtain ⟨k1, x1, e1, hk1, hx1⟩ := hk1
  have c1 : sSet 3 (xVal (fIf (fTru (fBor 2)) (fVar 3) PickE)) (sE size pl k acc p5) x = some (.nx (sE size pl k1 acc p5), x1) := sSet_va e1
  obtain ⟨t, x2, e2, ht, hx2⟩ := takE (env := sE size pl k1 acc p5) (i := 0) rfl hx1 (f := fVar 1) (many := size) rfl (by omega) (by omega)
  obtain ⟨o, x3, e3, ho, hx3⟩ := takE (env := sE size pl k1 acc p5) (i := 0) rfl hx2 (f := fC (.int 2)) (many := 2) rfl (by omega) (by omega)
  obtain ⟨w, x4, e4, hw, hx4⟩ := takE (env := sE size pl k1 acc p5) (i := 0) rfl hx3 (f := fC (.int 2)) (many := 2) rfl (by omega) (by omega)
  have e5 : fBin gAdd (fC (.int 1)) (fCallR 0 m_law_taken (aCons (fC (.int 2)) aNil)) (sE size pl k1 acc p5) x2 = some (.int (1 + o), x3) := fBin_eq rfl e3 rfl
  have e6 : fTup (aCons (fVar 3) (aCons (fBin gAdd (fC (.int 1)) (fCallR 0 m_law_taken (aCons (fC (.int 2)) aNil))) (aCons (fCallR 0 m_law_taken (aCons (fC (.int 2)) aNil)) aNil))) (sE size pl k1 acc p5) x2 = some (mD [.inr k1, .inl (1 + o), .inl w], x4) :=
    fTup_ok (aCons_eq (f := fVar 3) (d := .str k1) rfl (aCons_eq e5 (aCons1 e4))) tri_ml
  have hlt : (hdS acc).length < maxLen := by rw [hdS, List.length_map]; exact nob_n (by omega)
  have c2 : sDPut 4 (fTup (aCons (fVar 3) (aCons (fBin gAdd (fC (.int 1)) (fCallR 0 m_law_taken (aCons (fC (.int 2)) aNil))) (aCons (fCallR 0 m_law_taken (aCons (fC (.int 2)) aNil)) aNil)))) (fCallR 0 m_law_taken (aCons (fVar 1) aNil)) (sE size pl k1 acc p5) x1 = some (.nx (sE size pl k1 (putA acc [.inr k1, .inl (1 + o), .inl w] t) p5), x4) := by
    have e4 : (sE size pl k1 acc p5)[4]? = some (.ow (.dt (hdS acc))) := rfl
    simp only [sDPut, e2, e6, e4, dKeyT_m, if_pos hlt, put_hdS]
    rfl
  refine ⟨k1, _, x4, by delta sTurn; rw [sSeq_nx c1, c2], hk1, ha.put ⟨k1, 1 + o, w, rfl, hk1, by omega, by omega⟩ ht, putA_len _ _ _, hx4⟩
theorem empty_eq {l : List (Mk × Int)} (hl : l.length ≤ 1000) (he : ∀ p ∈ l, evOk p.1) : gEq (.tuple (l.map eSt)) (.tuple []) = some (.bool l.isEmpty) := by
  have h1 : shapedD (.tuple (l.map eSt)) = true := Pt.sh (k := 2) (Or.inr ⟨_, Or.inl rfl, by rw [List.length_map]; exact hl, by
    intro d hd
    obtain ⟨p, hp, rfl⟩ := List.mem_map.mp hd
    exact pt_eSt (he p hp)⟩) (by omega)
  have h2 : shapedD (.tuple []) = true := Pt.sh (k := 1) (Or.inr ⟨[], Or.inl rfl, by simp, by simp⟩) (by omega)
  simp only [gEq, h1, h2, Bool.and_self, if_true]
  cases l <;> simp [eqD, D.py, pyAll, PyData.eqv, PyData.eqvAll]
theorem eq_str {s t : Str} (hs : PyData.strOk s = true) (ht : PyData.strOk t = true) : gEq (.str s) (.str t) = some (.bool (decide (s = t))) := by
  have h1 : shapedD (.str s) = true := Pt.sh (k := 0) (Or.inr (Or.inr (Or.inl ⟨s, rfl, hs⟩))) (by omega)
  have h2 : shapedD (.str t) = true := Pt.sh (k := 0) (Or.inr (Or.inr (Or.inl ⟨t, rfl, ht⟩))) (by omega)
  simp [gEq, h1, h2, eqD, D.py, PyData.eqv]
  by_cases c : s = t <;> simp [c]
structure StDr (m : Nat) (s : StT) : Prop extends StOk m s where
  d : ∀ p ∈ s.2, evDr p.1
  l2 : s.2.length ≤ 2
theorem state_ok {size : Nat} (hz : 1 ≤ size ∧ size ≤ 100) {pl : Bool} {x : FRow} (hx : 0 ≤ x.a) : ∃ s x', m_law_state [.int size, .bool pl] x = some (eSta s, x') ∧ 0 ≤ x'.a ∧ StDr size s := by
  obtain ⟨k, x1, e1, hk, hx1⟩ := pick_k (env := [.rw, .va (.int size), .va (.bool pl), .no, .no, .no, .no, .no]) rfl hx
  have c1 : sPars [3, 4] (xsCons (xVal PickE) (xsCons (xNew (.dt [])) xsNil)) [.rw, .va (.int size), .va (.bool pl), .no, .no, .no, .no, .no] x = some (.nx (sE size pl k [] .no), x1) := by
    have q : xsCons (xVal PickE) (xsCons (xNew (.dt [])) xsNil) [.rw, .va (.int size), .va (.bool pl), .no, .no, .no, .no, .no] x = some ([.va (.str k), .ow (.dt [])], x1) := by
      simp only [xsCons, xVal, e1, xNew, xsNil]
    simp only [sPars, q, List.length_cons, List.length_nil, if_true]
    rfl
  obtain ⟨t, x2, e2, ht, hx2⟩ := takE (env := sE size pl k [] .no) (i := 0) rfl hx1 (f := fC (.int 3)) (many := 3) rfl (by omega) (by omega)
  obtain ⟨tn, rfl⟩ : ∃ tn : Nat, t = (tn : Int) := ⟨t.toNat, by omega⟩
  have f2 : fRg1 (fCallR 0 m_law_taken (aCons (fC (.int 3)) aNil)) (sE size pl k [] .no) x1 = some (rgD 0 tn, x2) := by
    simp only [fRg1, e2, rg_ok (n := tn) (by omega), if_true, Int.toNat_natCast]
  obtain ⟨_, x3, e3, k3, acc, p5, rfl, hk3, hacc, hlen, hx3⟩ := forL_rgR (gt := gtName 5) (b := sTurn) tn (fun i env x => ∃ k acc p5, env = sE size pl k acc p5 ∧ (k = hearS ∨ k = sayS) ∧ AccOk size acc ∧ acc.length ≤ i ∧ 0 ≤ x.a) (sE size pl k [] .no) x2 ⟨k, [], .no, rfl, hk, ⟨by simp, by simp, by simp⟩, by simp, hx2⟩ (by
    rintro i hi _ x ⟨k, acc, p5, rfl, hk, ha, hl, hx⟩
    obtain ⟨k', acc', x', e, h1, h2, h3, h4⟩ := s_turn (size := size) hz (pl := pl) hk ha (by omega) (.va (.int i)) hx
    exact ⟨_, _, x', rfl, e, k', acc', _, rfl, h1, h2, by omega, h4⟩)
  have c2 := for_eq f2 e3
  have hevo : ∀ p ∈ acc, evOk p.1 := fun p hp => (hacc.e p hp).ok
  have l1 : fOfX (xLc (fSeq (fCall gListOf (aCons (fBor 4) aNil))) (gtName 7) tYesF (fBin gAdd (fBor 7) (fTup (aCons (fBin gAt (fBor 4) (fBor 7)) aNil))) [7]) (sE size pl k3 acc p5) x3 = some (.list (acc.map eSt), x3) := by
    have q0 : fSeq (fCall gListOf (aCons (fBor 4) aNil)) (sE size pl k3 acc p5) x3 = some (acc.map fun p => mD p.1, x3) := by
      refine sqL (fK (aC1 (d := .dictT (hdS acc)) rfl) ?_)
      simp only [gListOf, hdS, List.map_map]; rfl
    refine lc_eq q0 (compL_map (fun p : Mk × Int => mD p.1) eSt acc fun p hp => ⟨_, rfl, rfl, ?_⟩) (by rw [List.length_map]; exact nob_n (by omega))
    have gv : gAt (.dictT (hdS acc)) (mD p.1) = some (.int p.2) := by
      simp only [gAt, gDAt, gDGet, dKeyT_m, val_hdS, find_nd hacc.nd hp, Option.map_some]
    exact fB (vB rfl) (fTup_ok (aC1 (fB (d := .dictT (hdS acc)) rfl (vB rfl) gv)) one_ml) (eSt_cat (hevo p hp))
  obtain ⟨st, s1, s2, s3, s4⟩ := sort_steps hacc (by omega)
  have c3 := sV (i := 6) (tupOf_ok (fK (aC1 l1) s1))
  generalize hE : (sE size pl k3 acc p5).set 6 (.va (.tuple (st.map eSt))) = E at c3
  have E0 : E[0]? = some .rw := by rw [← hE]; rfl
  have E2 : E[2]? = some (.va (.bool pl)) := by rw [← hE]; rfl
  have E3 : E[3]? = some (.va (.str k3)) := by rw [← hE]; rfl
  have E6 : E[6]? = some (.va (.tuple (st.map eSt))) := by rw [← hE]; rfl
  have hev : ∀ p ∈ st, evOk p.1 := fun p hp => hevo p (s3 p hp)
  have good : ∀ b : Bool, StDr size (b, st) := fun b => ⟨⟨by show st.length ≤ 3; omega, hev, fun p hp => hacc.t p (s3 p hp), s4⟩, fun p hp => hacc.e p (s3 p hp), by show st.length ≤ 2; omega⟩
  have t4 : fTst (fBin gEq (fBor 6) (fTup aNil)) E x3 = some (st.isEmpty, x3) := by
    have := fB (x := x3) (vB E6) (fTup_ok (show aNil E x3 = some ([], x3) from rfl) nil_ml) (empty_eq (by omega) hev)
    simp only [fTst, this]
  have wrap : ∀ {s : StT} {y : FRow}, b_law_state [.rw, .va (.int size), .va (.bool pl), .no, .no, .no, .no, .no] x = some (.rt (eSta s), y) → m_law_state [.int size, .bool pl] x = some (eSta s, y) := fun {s y} h => by
    show mkR 7 2 b_law_state _ x = _
    simp only [mkR, List.length_cons, List.length_nil, if_true]
    rw [show FSl.rw :: startE 7 [D.int size, .bool pl] = [.rw, .va (.int size), .va (.bool pl), .no, .no, .no, .no, .no] from rfl, h]
  cases hs : st.isEmpty with
  | true =>
    rw [hs] at t4
    obtain ⟨r, x4, e4, hr, hx4⟩ := takE (env := E) (i := 0) E0 hx3 (f := fC (.int 2)) (many := 2) rfl (by omega) (by omega)
    have q : ∃ b y, fOr (fVar 2) (fBin gEq (fCallR 0 m_law_taken (aCons (fC (.int 2)) aNil)) (fC (.int 0))) E x3 = some (.bool b, y) ∧ 0 ≤ y.a := by
      have v2 : fVar 2 E x3 = some (.bool pl, x3) := vV E2
      cases pl with
      | true => exact ⟨true, x3, by simp only [fOr, v2], hx3⟩
      | false => exact ⟨decide (r = 0), x4, by simp only [fOr, v2]; exact fBin_eq e4 rfl (eq_int r 0), hx4⟩
    obtain ⟨b, y, e5, hy⟩ := q
    refine ⟨(b, st), y, wrap ?_, hy, good b⟩
    have v6 : fVar 6 E y = some (.tuple (st.map eSt), y) := vV E6
    have c5 := fTup_ok (aCons2 e5 v6) two_ml
    unfold b_law_state
    rw [sSeq_nx c1, sSeq_nx c2, sSeq_nx c3]
    simp only [sSeq, sIf, t4, sRet, c5]
    rfl
  | false =>
    rw [hs] at t4
    have q : ∃ b y, fIf (fTru (fBor 2)) (fAnd (fBin gEq (fBor 3) (fC (.str (Str.ofString "hear")))) (fBin gEq (fCallR 0 m_law_taken (aCons (fC (.int 3)) aNil)) (fC (.int 0)))) (fBin gEq (fCallR 0 m_law_taken (aCons (fC (.int 3)) aNil)) (fC (.int 0))) E x3 = some (.bool b, y) ∧ 0 ≤ y.a := by
      obtain ⟨r, x4, e4, hr, hx4⟩ := takE (env := E) (i := 0) E0 hx3 (f := fC (.int 3)) (many := 3) rfl (by omega) (by omega)
      have q3 : fBin gEq (fCallR 0 m_law_taken (aCons (fC (.int 3)) aNil)) (fC (.int 0)) E x3 = some (.bool (decide (r = 0)), x4) := fBin_eq e4 rfl (eq_int r 0)
      have t2 : fTru (fBor 2) E x3 = some (pl, x3) := by simp only [fTru, vB (x := x3) E2, truD]
      have q2 := fB (x := x3) (vB E3) (show fC (.str (Str.ofString "hear")) E x3 = some (.str hearS, x3) from rfl) (eq_str (str_ok hk3) (str_ok (Or.inl rfl)))
      cases pl with
      | false => exact ⟨decide (r = 0), x4, by simp only [fIf, t2]; exact q3, hx4⟩
      | true =>
        cases hd : decide (k3 = hearS) with
        | false => rw [hd] at q2; exact ⟨false, x3, by simp only [fIf, t2, fAnd, q2], hx3⟩
        | true => rw [hd] at q2; exact ⟨decide (r = 0), x4, by simp only [fIf, t2, fAnd, q2]; exact q3, hx4⟩
    obtain ⟨b, y, e5, hy⟩ := q
    refine ⟨(b, st), y, wrap ?_, hy, good b⟩
    have v6 : fVar 6 E y = some (.tuple (st.map eSt), y) := vV E6
    have c5 := fTup_ok (aCons2 e5 v6) two_ml
    have c4 : sIf (fTst (fBin gEq (fBor 6) (fTup aNil))) (sRet (fTup (aCons (fOr (fVar 2) (fBin gEq (fCallR 0 m_law_taken (aCons (fC (.int 2)) aNil)) (fC (.int 0)))) (aCons (fVar 6) aNil)))) sNil E x3 = some (.nx E, x3) := by
      simp only [sIf, t4, sNil]
    unfold b_law_state
    rw [sSeq_nx c1, sSeq_nx c2, sSeq_nx c3, sSeq_nx c4]
    simp only [sRet, c5]
    rfl
theorem part_ok {most : Int} (hm : 1 ≤ most ∧ most ≤ 5) {pl : Bool} {x : FRow} (hx : 0 ≤ x.a) : ∃ ps x', m_law_part [.int most, .bool pl] x = some (ePa ps, x') ∧ 0 ≤ x'.a ∧ POk ps ∧ (ps.length : Int) ≤ most ∧ ∀ s ∈ ps, (∀ p ∈ s.2, evDr p.1) ∧ s.2.length ≤ 2 := by
  obtain ⟨r, x1, e1, hr, hx1⟩ := takE (env := [.rw, .va (.int most), .va (.bool pl), .no, .no]) (i := 0) rfl hx (f := fVar 1) (many := most) rfl (by omega) (by omega)
  obtain ⟨size, hsz⟩ : ∃ size : Nat, 1 + r = (size : Int) := ⟨(1 + r).toNat, by omega⟩
  have hz : 1 ≤ size ∧ size ≤ 5 := by omega
  have c1 : sSet 3 (xVal (fBin gAdd (fC (.int 1)) (fCallR 0 m_law_taken (aCons (fVar 1) aNil)))) [.rw, .va (.int most), .va (.bool pl), .no, .no] x = some (.nx [.rw, .va (.int most), .va (.bool pl), .va (.int size), .no], x1) :=
    sSet_va (fBin_eq rfl e1 (by rw [← hsz]; rfl))
  obtain ⟨ps, x2, g1, g2, g3, g4⟩ := compL_rowG eSta (gt := gtName 4) (t := tYesF) (fe := fCallR 0 m_law_state (aCons (fVar 3) (aCons (fVar 2) aNil))) (env := [.rw, .va (.int most), .va (.bool pl), .va (.int size), .no]) (fun s => StDr size s) (rgD 0 size) (by
    intro d hd x hx
    rw [rgD_map] at hd
    obtain ⟨i, hi, rfl⟩ := List.mem_map.mp hd
    obtain ⟨s, x', e, h1, h2⟩ := state_ok (size := size) (by omega) (pl := pl) hx
    exact ⟨_, s, x', rfl, rfl, fCallR_eq rfl (aCons2 rfl rfl) e, h1, h2⟩) x1 hx1
  have hlen : ps.length = size := by rw [g3, rgD_len]
  have l1 : fOfX (xLc (fRg1 (fVar 3)) (gtName 4) tYesF (fCallR 0 m_law_state (aCons (fVar 3) (aCons (fVar 2) aNil))) [4]) [.rw, .va (.int most), .va (.bool pl), .va (.int size), .no] x1 = some (.list (ps.map eSta), x2) := by
    have hrg : fRg1 (fVar 3) [.rw, .va (.int most), .va (.bool pl), .va (.int size), .no] x1 = some (rgD 0 size, x1) := rg1 rfl (by omega)
    have hlt : (ps.map eSta).length < maxLen := by rw [List.length_map]; exact nob_n (by omega)
    rw [fOfX, xLc, hrg]
    simp only
    rw [show wipeE [FSl.rw, .va (.int most), .va (.bool pl), .va (.int size), .no] [4] = [.rw, .va (.int most), .va (.bool pl), .va (.int size), .no] from rfl, g1]
    simp only [if_pos hlt, OwD.d]
  refine ⟨ps, x2, ?_, g2, ⟨by omega, fun s hs => by rw [hlen]; exact (g4 s hs).toStOk⟩, by omega, fun s hs => ⟨(g4 s hs).d, (g4 s hs).l2⟩⟩
  have c3 : b_law_part [.rw, .va (.int most), .va (.bool pl), .no, .no] x = some (.rt (ePa ps), x2) := by
    unfold b_law_part
    rw [sSeq_nx c1, sRet, tupOf_ok l1]
    rfl
  show mkR 4 2 b_law_part _ x = _
  simp only [mkR, List.length_cons, List.length_nil, if_true]
  rw [show FSl.rw :: startE 4 [D.int most, .bool pl] = [.rw, .va (.int most), .va (.bool pl), .no, .no] from rfl, c3]
end Lp
namespace Bf
def adds (acc ts : List Int) : List Int := ts.foldl (fun acc t => if t ∈ acc then acc else acc ++ [t]) acc
theorem adds_nil (acc : List Int) : adds acc [] = acc := rfl
theorem adds_cons (acc : List Int) (t : Int) (ts : List Int) : adds acc (t :: ts) = adds (if t ∈ acc then acc else acc ++ [t]) ts := rfl
theorem adds_pre : ∀ (ts acc : List Int), acc <+: adds acc ts
  | [], acc => List.prefix_refl acc
  | t :: ts, acc => by
    rw [adds_cons]
    split
    · exact adds_pre ts acc
    · exact (List.prefix_append acc [t]).trans (adds_pre ts _)
theorem adds_nd : ∀ (ts acc : List Int), acc.Nodup → (adds acc ts).Nodup
  | [], acc, h => h
  | t :: ts, acc, h => by
    rw [adds_cons]
    split
    · exact adds_nd ts acc h
    · exact adds_nd ts _ (by grind)
theorem adds_mem (x : Int) : ∀ (ts acc : List Int), x ∈ adds acc ts ↔ x ∈ acc ∨ x ∈ ts
  | [], acc => by simp [adds_nil]
  | t :: ts, acc => by
    rw [adds_cons]
    split <;> rw [adds_mem x ts] <;> grind
def bf (G : Int → List Int) (v : Int) : Nat → List Int
  | 0 => [v]
  | k + 1 => match (bf G v k)[k]? with
    | some u => adds (bf G v k) (G u)
    | none => bf G v k
variable {G : Int → List Int} {v : Int}
theorem bf_s (k : Nat) : bf G v k <+: bf G v (k + 1) := by
  rw [bf]
  split
  · exact adds_pre _ _
  · exact List.prefix_refl _
theorem bf_le {k j : Nat} (h : k ≤ j) : bf G v k <+: bf G v j := by
  induction j with
  | zero => have : k = 0 := by omega
            subst this; exact List.prefix_refl _
  | succ j ih =>
    by_cases e : k = j + 1
    · subst e; exact List.prefix_refl _
    · exact (ih (by omega)).trans (bf_s j)
theorem bf_nd (k : Nat) : (bf G v k).Nodup := by
  induction k with
  | zero => simp [bf]
  | succ k ih => rw [bf]; split; exact adds_nd _ _ ih; exact ih
theorem bf_in (S : Int → Prop) (hv : S v) (hG : ∀ u, S u → ∀ t ∈ G u, S t) (k : Nat) : ∀ x ∈ bf G v k, S x := by
  induction k with
  | zero => simp [bf, hv]
  | succ k ih =>
    intro x hx
    rw [bf] at hx
    split at hx
    · rename_i u hu
      rcases (adds_mem x _ _).mp hx with h | h
      · exact ih x h
      · exact hG u (ih u (List.mem_of_getElem? hu)) x h
    · exact ih x hx
theorem bf_stop {k : Nat} (h : (bf G v k).length ≤ k) : ∀ j, bf G v (k + j) = bf G v k := by
  intro j
  induction j with
  | zero => rfl
  | succ j ih =>
    rw [← Nat.add_assoc, bf, ih]
    rw [List.getElem?_eq_none (by omega)]
theorem pig : ∀ (m : Nat) (l : List Int), l.Nodup → (∀ x ∈ l, 0 ≤ x ∧ x < m) → l.length ≤ m
  | 0, l, _, h => by
    cases l with
    | nil => simp
    | cons a l => have := h a (by simp); omega
  | m + 1, l, hn, h => by
    have e := pig m (l.erase (m : Int)) (hn.erase _) (fun x hx => by
      have h1 := (hn.mem_erase_iff).mp hx
      have h2 := h x h1.2
      have := h1.1
      omega)
    rw [List.length_erase] at e
    split at e <;> omega
theorem bf_len {m : Nat} (hv : 0 ≤ v ∧ v < m) (hG : ∀ u : Int, 0 ≤ u ∧ u < m → ∀ t ∈ G u, 0 ≤ t ∧ t < m) (k : Nat) : (bf G v k).length ≤ m :=
  pig m _ (bf_nd k) (bf_in (fun x => 0 ≤ x ∧ x < m) hv hG k)
def ord (G : Int → List Int) (v : Int) : List Int := bf G v 8
structure Web (m : Nat) (G : Int → List Int) : Prop where
  le : m ≤ 8
  to : ∀ u : Int, 0 ≤ u ∧ u < m → ∀ t ∈ G u, 0 ≤ t ∧ t < m
variable {m : Nat}
theorem ord_end (W : Web m G) (hv : 0 ≤ v ∧ v < m) {k : Nat} (hk : (bf G v k).length ≤ k) : bf G v k = ord G v := by
  have h8 : (bf G v 8).length ≤ 8 := by have := bf_len hv W.to 8; have := W.le; omega
  by_cases h : k ≤ 8
  · have := bf_stop hk (8 - k)
    rw [ord, ← this]; congr 1; omega
  · have := bf_stop h8 (k - 8)
    rw [ord, ← this]; congr 1; omega
theorem ord_self : v ∈ ord G v := (bf_le (Nat.zero_le 8)).subset (by simp [bf])
theorem ord_in (W : Web m G) (hv : 0 ≤ v ∧ v < m) : ∀ x ∈ ord G v, 0 ≤ x ∧ x < m := bf_in (fun x => 0 ≤ x ∧ x < m) hv W.to 8
theorem ord_nd : (ord G v).Nodup := bf_nd 8
theorem ord_len (W : Web m G) (hv : 0 ≤ v ∧ v < m) : (ord G v).length ≤ m := bf_len hv W.to 8
theorem ord_go (W : Web m G) (hv : 0 ≤ v ∧ v < m) {u t : Int} (hu : u ∈ ord G v) (ht : t ∈ G u) : t ∈ ord G v := by
  obtain ⟨i, hi, e⟩ := List.getElem_of_mem hu
  have hl := ord_len W hv
  have h8 := W.le
  have hi2 : i < (bf G v i).length := by
    by_cases c : (bf G v i).length ≤ i
    · rw [ord_end W hv c] at c; omega
    · omega
  have e2 : (bf G v i)[i]? = some u := by
    have p : bf G v i <+: ord G v := bf_le (by omega)
    rw [List.getElem?_eq_getElem hi2, p.getElem hi2, e]
  have : t ∈ bf G v (i + 1) := by
    rw [bf, e2]; exact (adds_mem t _ _).mpr (Or.inr ht)
  exact (bf_le (show i + 1 ≤ 8 by omega)).subset this
theorem ord_sub {S : Int → Prop} (hv : S v) (hG : ∀ u, S u → ∀ t ∈ G u, S t) : ∀ x ∈ ord G v, S x := bf_in S hv hG 8
def lv (G : Int → List Int) (O : List Int) : List Int → List Int
  | [] => O
  | u :: us => lv G (adds O (G u)) us
end Bf
namespace Lw
open PySem RT
abbrev Br := Int × Int × Int
abbrev Sc := Option (Int × List Br)
def eB (b : Br) : D := .tuple [.int b.1, .int b.2.1, .int b.2.2]
def eS : Sc → D
  | none => .none
  | some (s, bs) => .tuple [.int s, .tuple (bs.map eB)]
def eX (n : Int) (ss : List Sc) : D := .tuple [.int n, .tuple (ss.map eS)]
theorem compL_gen {α : Type} {gt : FGt} {t : FT} {fe : FE} {env : FEn} {x : FRow} (enc : α → D) (p : α → Bool) (g : α → D) : ∀ (l : List α), (∀ a ∈ l, ∃ e, gt (enc a) env = some e ∧ t e x = some (p a, x) ∧ (p a = true → fe e x = some (g a, x))) → compL gt t fe env (l.map enc) x = some ((l.filter p).map g, x)
  | [], _ => rfl
  | a :: l, h => by
    obtain ⟨e, h1, h2, h3⟩ := h a (by simp)
    have ih := compL_gen enc p g l fun b hb => h b (by simp [hb])
    cases hp : p a with
    | true => simp [compL, h1, h2, h3 hp, hp, ih]
    | false => simp [compL, h1, h2, hp, ih]
theorem compL_map {α : Type} {gt : FGt} {t : FT} {fe : FE} {env : FEn} {x : FRow} (enc : α → D) (g : α → D) (l : List α) (h : ∀ a ∈ l, ∃ e, gt (enc a) env = some e ∧ t e x = some (true, x) ∧ fe e x = some (g a, x)) : compL gt t fe env (l.map enc) x = some (l.map g, x) := by
  rw [compL_gen enc (fun _ => true) g l fun a ha => by obtain ⟨e, h1, h2, h3⟩ := h a ha; exact ⟨e, h1, h2, fun _ => h3⟩]
  rw [List.filter_eq_self.mpr (by simp)]
theorem sSeq_nx {f h : FS} {env e1 : FEn} {x x1 : FRow} (a : f env x = some (.nx e1, x1)) : sSeq f h env x = h e1 x1 := by simp [sSeq, a]
theorem rgD_map (n : Nat) : rgD 0 n = (List.range n).map fun (i : Nat) => D.int (i : Int) := by simp [rgD]
theorem enD_map {α : Type} (enc : α → D) (l : List α) : enD (l.map enc) = l.zipIdx.map fun p => D.tuple [.int (p.2 : Int), enc p.1] := by
  unfold enD
  apply List.ext_getElem (by simp)
  intro i h1 h2
  simp
theorem atI_nat {α : Type} {l : List α} {i : Nat} {z : α} (h : l[i]? = some z) : L2.atI l (i : Int) = some z := by
  have hi : i < l.length := by
    by_cases c : i < l.length
    · exact c
    · rw [List.getElem?_eq_none (by omega)] at h; exact absurd h (by simp)
  unfold L2.atI L2.ixN
  rw [if_pos (by omega), if_pos (by omega)]
  simpa using h
theorem atI_int {α : Type} {l : List α} {i : Int} {z : α} (h0 : 0 ≤ i) (h : l[i.toNat]? = some z) : L2.atI l i = some z := by
  rw [show i = ((i.toNat : Nat) : Int) by omega]; exact atI_nat h
theorem atI_z0 {α : Type} {a : α} {l : List α} : L2.atI (a :: l) 0 = some a := atI_nat (i := 0) rfl
theorem atI_z1 {α : Type} {a b : α} {l : List α} : L2.atI (a :: b :: l) 1 = some b := atI_nat (i := 1) rfl
theorem atI_z2 {α : Type} {a b c : α} {l : List α} : L2.atI (a :: b :: c :: l) 2 = some c := atI_nat (i := 2) rfl
def P0 (d : D) : Prop := d = .none ∨ (∃ i, d = .int i) ∨ (∃ b, d = .str b ∧ PyData.strOk b = true) ∨ ∃ b, d = .bool b
def Pt : Nat → D → Prop
  | 0, d => P0 d
  | k + 1, d => P0 d ∨ ∃ ds, (d = .tuple ds ∨ d = .list ds) ∧ ds.length ≤ 1000 ∧ ∀ e ∈ ds, Pt k e
theorem lay_all : ∀ ds : List D, (∀ e ∈ ds, e.py.canLay0 = true) → PyData.canLayAll0 (pyAll ds) = true
  | [], _ => by simp [pyAll, PyData.canLayAll0]
  | d :: ds, h => by
    simp only [pyAll, PyData.canLayAll0, h d (by simp), lay_all ds fun e he => h e (by simp [he])]; rfl
theorem dep_all (k : Nat) : ∀ ds : List D, (∀ e ∈ ds, e.py.depth ≤ k) → PyData.depthAll (pyAll ds) ≤ k
  | [], _ => by simp [pyAll, PyData.depthAll]
  | d :: ds, h => by
    simp only [pyAll, PyData.depthAll]
    have := h d (by simp)
    have := dep_all k ds fun e he => h e (by simp [he])
    omega
theorem eq_all : ∀ ds : List D, (∀ e ∈ ds, PyData.eqv e.py e.py = true) → PyData.eqvAll (pyAll ds) (pyAll ds) = true
  | [], _ => by simp [pyAll, PyData.eqvAll]
  | d :: ds, h => by
    simp only [pyAll, PyData.eqvAll, h d (by simp), eq_all ds fun e he => h e (by simp [he])]; rfl
theorem P0.ok {d : D} (h : P0 d) : d.py.canLay0 = true ∧ d.py.depth = 0 ∧ PyData.eqv d.py d.py = true := by
  rcases h with rfl | ⟨i, rfl⟩ | ⟨b, rfl, hb⟩ | ⟨b, rfl⟩ <;> simp_all [D.py, PyData.canLay0, PyData.depth, PyData.eqv]
theorem Pt.ok : ∀ {k : Nat} {d : D}, Pt k d → d.py.canLay0 = true ∧ d.py.depth ≤ k ∧ PyData.eqv d.py d.py = true
  | 0, d, h => by have := P0.ok h; exact ⟨this.1, by omega, this.2.2⟩
  | k + 1, d, h => by
    rcases h with h | ⟨ds, e, _, h⟩
    · have := P0.ok h; exact ⟨this.1, by omega, this.2.2⟩
    · have h1 := lay_all ds fun e he => (Pt.ok (h e he)).1
      have h2 := dep_all k ds fun e he => (Pt.ok (h e he)).2.1
      have h3 := eq_all ds fun e he => (Pt.ok (h e he)).2.2
      rcases e with rfl | rfl <;> simp [D.py, PyData.canLay0, PyData.depth, PyData.eqv, h1, h2, h3]
theorem Pt.sh {k : Nat} {d : D} (h : Pt k d) (hk : k ≤ 64) : shapedD d = true := by
  have := h.ok
  simp [shapedD, SeqAt.shaped, this.1, Nat.le_trans this.2.1 hk]
theorem Pt.rf {k : Nat} {d : D} (h : Pt k d) (hk : k ≤ 64) : gEq d d = some (.bool true) := by
  simp [gEq, h.sh hk, eqD, h.ok.2.2]
theorem Pt.nrf {k : Nat} {d : D} (h : Pt k d) (hk : k ≤ 64) : gNe d d = some (.bool false) := by
  simp [gNe, h.sh hk, eqD, h.ok.2.2]
theorem Pt.up : ∀ {k : Nat} {d : D}, Pt k d → Pt (k + 1) d
  | 0, d, h => Or.inl h
  | k + 1, d, h => by
    rcases h with h | ⟨ds, e, l, h⟩
    · exact Or.inl h
    · exact Or.inr ⟨ds, e, l, fun z hz => Pt.up (h z hz)⟩
theorem Pt.le {k j : Nat} {d : D} (h : Pt k d) (hj : k ≤ j) : Pt j d := by
  induction j with
  | zero => have : k = 0 := by omega
            subst this; exact h
  | succ j ih =>
    by_cases c : k = j + 1
    · subst c; exact h
    · exact (ih (by omega)).up
theorem sh_int (i : Int) : shapedD (.int i) = true := by simp [shapedD, SeqAt.shaped, D.py, PyData.canLay0, PyData.depth]
theorem sh_bool (i : Bool) : shapedD (.bool i) = true := by simp [shapedD, SeqAt.shaped, D.py, PyData.canLay0, PyData.depth]
theorem sh_ints (l : List Int) : shapedD (.list (l.map .int)) = true := by
  have h1 := lay_all (l.map D.int) (by simp [D.py, PyData.canLay0])
  have h2 := dep_all 0 (l.map D.int) (by simp [D.py, PyData.depth])
  simp only [shapedD, SeqAt.shaped, D.py, PyData.canLay0, PyData.depth, h1, Bool.true_and, decide_eq_true_eq]
  omega
theorem ne_int (i j : Int) : gNe (.int i) (.int j) = some (.bool (!decide (i = j))) := by
  simp [gNe, sh_int, eqD, D.py, PyData.eqv]
  by_cases h : i = j <;> simp [h]
theorem eq_int (i j : Int) : gEq (.int i) (.int j) = some (.bool (decide (i = j))) := by
  simp [gEq, sh_int, eqD, D.py, PyData.eqv]
  by_cases h : i = j <;> simp [h]
theorem ne_bool (i j : Bool) : gNe (.bool i) (.bool j) = some (.bool (i != j)) := by
  cases i <;> cases j <;> simp [gNe, sh_bool, eqD, D.py, PyData.eqv]
theorem eq_bool (i j : Bool) : gEq (.bool i) (.bool j) = some (.bool (i == j)) := by
  cases i <;> cases j <;> simp [gEq, sh_bool, eqD, D.py, PyData.eqv]
theorem ne_nil (l : List Int) : gNe (.list (l.map .int)) (.list []) = some (.bool (!l.isEmpty)) := by
  have h := sh_ints l
  have h0 := sh_ints []
  rw [List.map_nil] at h0
  simp only [gNe, h, h0, Bool.true_and, if_true]
  cases l <;> simp [eqD, D.py, pyAll, PyData.eqv, PyData.eqvAll]
def dS (l : List Int) : List (D × D) := l.map fun i => (D.int i, D.bool true)
theorem dS_any (t : Int) (l : List Int) : ((dS l).any fun p => decide (dKey p.1 = some (.inl t))) = decide (t ∈ l) := by
  induction l with
  | nil => rfl
  | cons a l ih =>
    have : dS (a :: l) = (D.int a, D.bool true) :: dS l := rfl
    rw [this, List.any_cons, ih]
    simp only [dKey, List.mem_cons, Option.some.injEq, Sum.inl.injEq]
    by_cases h : a = t
    · simp [h]
    · have : ¬ t = a := fun h2 => h h2.symm
      simp [h, this]
theorem dS_val (t : Int) (l : List Int) : (valD dKey (dS l) (.inl t)).isSome = decide (t ∈ l) := by
  rw [← dS_any]
  simp only [valD, Option.isSome_map, List.isSome_find?]
theorem dS_notin (t : Int) (l : List Int) : gNotInA (.int t) (.dict (dS l)) = some (.bool (!decide (t ∈ l))) := by
  simp only [gNotInA, gDNotIn, gDGet, dKey, dS_val]
theorem dS_put (t : Int) (l : List Int) : putD dKey (dS l) (.int t) (.inl t) (.bool true) = dS (Bf.adds l [t]) := by
  unfold putD
  rw [dS_any, Bf.adds_cons, Bf.adds_nil]
  by_cases h : t ∈ l
  · rw [if_pos (by simpa using h), if_pos h]
    unfold dS
    rw [List.map_map]
    refine List.map_congr_left fun i _ => ?_
    simp only [Function.comp]
    split <;> rfl
  · rw [if_neg (by simpa using h), if_neg h]
    simp [dS]
theorem alike_base {k : Nat} {d : D} (h0 : P0 d) : m_law_alike (k + 1) [d, d] = some (.bool true) := by
  have e := Pt.rf (k := 0) h0 (by omega)
  rcases h0 with rfl | ⟨i, rfl⟩ | ⟨b, rfl, hb⟩ | ⟨b, rfl⟩ <;> simp [m_law_alike, b_law_alike, fVar, fBor, fC, aNil, aCons, fTup, fLst, fBin, fTst, fChain, fAnd, fOr, fNot, fNeg, tAndF, tOrF, tNotF, fTru, fIf, fSl, oNone, oSome, fCall, fCallR, fRow, fRowLen, fRowAt, sSet, sPars, setsE, xVal, xLst, xNew, xDict1, sRet, sNo, sNil, sSeq, sIf, eFrz, sFrz, sUnp, gtName, gtNil, gtCons, gtTup, fSeq, sAug, sDrop, sApp, sExt, sDPut, fOfX, sRow, xsNil, xsCons, fIsi, fIsi2, okRg, fRg1, fRg2, fEn, mkF, mkR, startE, tYesF, OwD.d, sFor, xLc, xDc, wipeE, truD, isNoneD, gIsN, gNotN, isiD, maxLen, gI, gOr, gAdd, gMul, gCatT, gCatL, gLtX, gLt, gLen, gInt, gTupOf, gListOf, gAt, pMod, pDiv, pMul, pPow, e, eq_bool]
theorem lc_eq {f : FA} {gt : FGt} {t : FT} {fe : FE} {vs : List Nat} {env : FEn} {x : FRow} {ds rs : List D} (h1 : f env x = some (ds, x)) (h2 : compL gt t fe (wipeE env vs) ds x = some (rs, x)) (h3 : rs.length < maxLen) : fOfX (xLc f gt t fe vs) env x = some (.list rs, x) := by
  simp [fOfX, xLc, h1, h2, h3, OwD.d]
theorem law_alike_s (k : Nat) (ds : List D) : m_law_alike (k + 1) ds = mkF 3 2 (b_law_alike (m_law_alike k)) ds := by
  rfl
theorem mkF_rt {n k : Nat} {b : FS} {ds : List D} {d : D} {x : FRow} (hk : ds.length = k) (h : b (startE n ds) row0 = some (.rt d, x)) : mkF n k b ds = some d := by
  simp [mkF, hk, h]
theorem rg_ok {n : Nat} (h : n ≤ 1000) : okRg (n : Int) = true := by
  simp only [okRg, decide_eq_true_eq]; omega
theorem alike_step {rec : List D → Option D} {d : D} {ds : List D} (e : d = .tuple ds ∨ d = .list ds) (hl : ds.length ≤ 1000) (h : compL (gtName 2) (tNotF (fTru (fCall rec (aCons (fBin gAt (fBor 0) (fBor 2)) (aCons (fBin gAt (fBor 1) (fBor 2)) aNil))))) (fVar 2) [.va d, .va d, .no] (rgD 0 ds.length) row0 = some ([], row0)) : mkF 3 2 (b_law_alike rec) [d, d] = some (.bool true) := by
  have e0 : gEq (.list []) (.list []) = some (.bool true) := Pt.rf (k := 1) (Or.inr ⟨[], Or.inr rfl, by simp, by simp⟩) (by omega)
  have hk := rg_ok hl
  have h3 : fOfX (xLc (fRg1 (fCall gLen (aCons (fBor 1) aNil))) (gtName 2) (tNotF (fTru (fCall rec (aCons (fBin gAt (fBor 0) (fBor 2)) (aCons (fBin gAt (fBor 1) (fBor 2)) aNil))))) (fVar 2) [2]) [.va d, .va d, .no] row0 = some (.list [], row0) := by
    refine lc_eq (ds := rgD 0 ds.length) ?_ ?_ (by simp [maxLen])
    · rcases e with rfl | rfl <;> simp [fRg1, fCall, fBor, aCons, aNil, gLen, hk]
    · exact h
  have hl0 : fLst aNil [.va d, .va d, .no] row0 = some (.list [], row0) := by simp [fLst, aNil]
  have t1 : fTru (fIsi2 .tuple .list (fBor 1)) [.va d, .va d, .no] row0 = some (true, row0) := by
    rcases e with rfl | rfl <;> simp [fTru, fIsi2, fBor, isiD, truD]
  have t0 : fTru (fIsi2 .tuple .list (fBor 0)) [.va d, .va d, .no] row0 = some (true, row0) := by
    rcases e with rfl | rfl <;> simp [fTru, fIsi2, fBor, isiD, truD]
  have t2 : fTst (fBin gNe (fIsi .list (fBor 0)) (fIsi .list (fBor 1))) [.va d, .va d, .no] row0 = some (false, row0) := by
    rcases e with rfl | rfl <;> simp [fTst, fBin, fIsi, fBor, isiD, ne_bool]
  have t3 : fTst (fBin gNe (fCall gLen (aCons (fBor 0) aNil)) (fCall gLen (aCons (fBor 1) aNil))) [.va d, .va d, .no] row0 = some (false, row0) := by
    rcases e with rfl | rfl <;> simp [fTst, fBin, fCall, aCons, aNil, fBor, gLen, ne_int]
  have t4 : b_law_alike rec [.va d, .va d, .no] row0 = some (.rt (.bool true), row0) := by
    simp only [b_law_alike, sSeq, sIf, tOrF, tNotF, t0, t1, t2, t3, sNil, sRet, fBin, h3, hl0, e0, Bool.not_true]
  exact mkF_rt rfl t4
theorem alike_ok (k : Nat) : ∀ {d : D}, Pt k d → m_law_alike (k + 1) [d, d] = some (.bool true) := by
  induction k with
  | zero => exact fun h => alike_base h
  | succ k ih =>
    intro d h
    rcases h with h | ⟨ds, e, hl, h⟩
    · exact alike_base h
    · have hr : ∀ x : FRow, ∀ d' : D, (d' = .tuple ds ∨ d' = .list ds) → compL (gtName 2) (tNotF (fTru (fCall (m_law_alike (k + 1)) (aCons (fBin gAt (fBor 0) (fBor 2)) (aCons (fBin gAt (fBor 1) (fBor 2)) aNil))))) (fVar 2) [.va d', .va d', .no] (rgD 0 ds.length) x = some ([], x) := by
        intro x d' hd'
        rw [rgD_map]
        rw [compL_gen (fun (i : Nat) => D.int (i : Int)) (fun _ => false) (fun _ => .none) (List.range ds.length)]
        · simp
        · intro i hi
          have hi' : i < ds.length := by simpa using hi
          have hz : ds[i]? = some ds[i] := List.getElem?_eq_getElem hi'
          have ha := atI_nat hz
          have hm := ih (h ds[i] (List.getElem_mem hi'))
          refine ⟨_, rfl, ?_, by simp⟩
          rcases hd' with rfl | rfl <;> simp [fVar, fBor, fC, aNil, aCons, fTup, fLst, fBin, fTst, fChain, fAnd, fOr, fNot, fNeg, tAndF, tOrF, tNotF, fTru, fIf, fSl, oNone, oSome, fCall, fCallR, fRow, fRowLen, fRowAt, sSet, sPars, setsE, xVal, xLst, xNew, xDict1, sRet, sNo, sNil, sSeq, sIf, eFrz, sFrz, sUnp, gtName, gtNil, gtCons, gtTup, fSeq, sAug, sDrop, sApp, sExt, sDPut, fOfX, sRow, xsNil, xsCons, fIsi, fIsi2, okRg, fRg1, fRg2, fEn, mkF, mkR, startE, tYesF, OwD.d, sFor, xLc, xDc, wipeE, truD, isNoneD, gIsN, gNotN, isiD, maxLen, gI, gOr, gAdd, gMul, gCatT, gCatL, gLtX, gLt, gLen, gInt, gTupOf, gListOf, gAt, pMod, pDiv, pMul, pPow, ha, hm]
      rw [law_alike_s]
      exact alike_step e hl (hr row0 d e)
theorem is_number_eq (i a b : Int) : m_is_number [.int i, .int a, .int b] = some (.bool (decide (a ≤ i) && decide (i ≤ b))) := by
  by_cases h1 : a ≤ i <;> by_cases h2 : i ≤ b <;> simp [m_is_number, b_is_number, fVar, fBor, fC, aNil, aCons, fTup, fLst, fBin, fTst, fChain, fAnd, fOr, fNot, fNeg, tAndF, tOrF, tNotF, fTru, fIf, fSl, oNone, oSome, fCall, fCallR, fRow, fRowLen, fRowAt, sSet, sPars, setsE, xVal, xLst, xNew, xDict1, sRet, sNo, sNil, sSeq, sIf, eFrz, sFrz, sUnp, gtName, gtNil, gtCons, gtTup, fSeq, sAug, sDrop, sApp, sExt, sDPut, fOfX, sRow, xsNil, xsCons, fIsi, fIsi2, okRg, fRg1, fRg2, fEn, mkF, mkR, startE, tYesF, OwD.d, sFor, xLc, xDc, wipeE, truD, isNoneD, gIsN, gNotN, isiD, maxLen, gI, gOr, gAdd, gMul, gCatT, gCatL, gLtX, gLt, gLen, gInt, gTupOf, gListOf, gAt, pMod, pDiv, pMul, pPow, h1, h2]
theorem has_items_eq (ds : List D) (a b : Int) : m_has_items [.tuple ds, .int a, .int b] = some (.bool (decide (a ≤ ds.length) && decide ((ds.length : Int) ≤ b))) := by
  by_cases h1 : a ≤ ds.length <;> by_cases h2 : (ds.length : Int) ≤ b <;> simp [m_has_items, b_has_items, fVar, fBor, fC, aNil, aCons, fTup, fLst, fBin, fTst, fChain, fAnd, fOr, fNot, fNeg, tAndF, tOrF, tNotF, fTru, fIf, fSl, oNone, oSome, fCall, fCallR, fRow, fRowLen, fRowAt, sSet, sPars, setsE, xVal, xLst, xNew, xDict1, sRet, sNo, sNil, sSeq, sIf, eFrz, sFrz, sUnp, gtName, gtNil, gtCons, gtTup, fSeq, sAug, sDrop, sApp, sExt, sDPut, fOfX, sRow, xsNil, xsCons, fIsi, fIsi2, okRg, fRg1, fRg2, fEn, mkF, mkR, startE, tYesF, OwD.d, sFor, xLc, xDc, wipeE, truD, isNoneD, gIsN, gNotN, isiD, maxLen, gI, gOr, gAdd, gMul, gCatT, gCatL, gLtX, gLt, gLen, gInt, gTupOf, gListOf, gAt, pMod, pDiv, pMul, pPow, h1, h2]
structure OkB (n : Int) (m : Nat) (s : Int) (b : Br) : Prop where
  h : 0 ≤ b.1 ∧ b.1 < n
  ne : b.1 ≠ s
  w : 0 ≤ b.2.1 ∧ b.2.1 ≤ 5
  t : 0 ≤ b.2.2 ∧ b.2.2 < m
def Two (bs : List Br) : Prop := (∃ b, bs = [b]) ∨ ∃ b c, bs = [b, c] ∧ HT.lexLt [b.1, b.2.1] [c.1, c.2.1] = true
structure Ok (n : Int) (ss : List Sc) : Prop where
  n2 : 2 ≤ n ∧ n ≤ 4
  m : 1 ≤ ss.length ∧ ss.length ≤ 7
  sc : ∀ s bs, some (s, bs) ∈ ss → (0 ≤ s ∧ s < n) ∧ Two bs ∧ ∀ b ∈ bs, OkB n ss.length s b
end Lw
namespace Lw
open PySem RT
theorem mkF_nx {n k : Nat} {b : FS} {ds : List D} {e : FEn} {x : FRow} (hk : ds.length = k) (h : b (startE n ds) row0 = some (.nx e, x)) : mkF n k b ds = some .none := by
  simp [mkF, hk, h]
theorem intsD_map : ∀ l : List Int, intsD (l.map .int) = some l
  | [] => rfl
  | a :: l => by simp [intsD, intsD_map l]
theorem bools_map {α : Type} (f : α → Bool) : ∀ l : List α, bools (l.map fun a => .bool (f a)) = some (l.map f)
  | [] => rfl
  | a :: l => by simp [bools, bools_map f l]
end Lw
namespace Lw
open PySem RT
theorem whL_inv {t : FT} {b : FS} {x : FRow} (R : Nat → FEn → Prop) (stop : Nat) (h : ∀ k env, R k env → k < stop → t env x = some (true, x) ∧ ∃ e2, b env x = some (.nx e2, x) ∧ R (k + 1) e2) (he : ∀ env, R stop env → t env x = some (false, x)) : ∀ (fuel k : Nat) (env : FEn), R k env → k ≤ stop → stop - k < fuel → ∃ e2, whL t b fuel env x = some (.nx e2, x) ∧ R stop e2
  | 0, _, _, _, _, hf => by omega
  | fuel + 1, k, env, r, hk, hf => by
    by_cases c : k = stop
    · subst c
      exact ⟨env, by simp [whL, he env r], r⟩
    · obtain ⟨h1, e2, h2, h3⟩ := h k env r (by omega)
      obtain ⟨e3, h4, h5⟩ := whL_inv R stop h he fuel (k + 1) e2 h3 (by omega) (by omega)
      exact ⟨e3, by simp [whL, h1, h2, h4], h5⟩
theorem first_ex {P : Nat → Prop} : ∀ N, P N → ∃ k, k ≤ N ∧ P k ∧ ∀ j, j < k → ¬ P j
  | 0, h => ⟨0, by omega, h, fun j hj => by omega⟩
  | N + 1, h => by
    by_cases c : ∃ j, j ≤ N ∧ P j
    · obtain ⟨j, hj, pj⟩ := c
      have : ∀ M, M ≤ N → P M → ∃ k, k ≤ M ∧ P k ∧ ∀ j, j < k → ¬ P j := by
        intro M
        induction M using Nat.strongRecOn with
        | ind M ih =>
          intro hM pM
          by_cases d : ∃ i, i < M ∧ P i
          · obtain ⟨i, hi, pi⟩ := d
            obtain ⟨k, k1, k2, k3⟩ := ih i hi (by omega) pi
            exact ⟨k, by omega, k2, k3⟩
          · exact ⟨M, by omega, pM, fun i hi pi => d ⟨i, hi, pi⟩⟩
      obtain ⟨k, k1, k2, k3⟩ := this j hj pj
      exact ⟨k, by omega, k2, k3⟩
    · exact ⟨N + 1, by omega, h, fun j hj pj => c ⟨j, by omega, pj⟩⟩
def eT (s : Int) (b : Br) : D := .tuple [.tuple [.int s, .int b.1, .int b.2.1], .int b.2.2]
def tk : Sc → List D
  | none => []
  | some (s, bs) => bs.map (eT s)
def scAt (ss : List Sc) (v : Int) : Sc := match ss[v.toNat]? with
  | some sc => sc
  | none => none
def bsOf : Sc → List Br
  | none => []
  | some (_, bs) => bs
def brs (ss : List Sc) (v : Int) : List Br := bsOf (scAt ss v)
def GG (ss : List Sc) (v : Int) : List Int := (brs ss v).map (·.2.2)
theorem Two.len {bs : List Br} (h : Two bs) : 1 ≤ bs.length ∧ bs.length ≤ 2 := by
  rcases h with ⟨b, rfl⟩ | ⟨b, c, rfl, _⟩ <;> simp
theorem Ok.bsl {n : Int} {ss : List Sc} (k : Ok n ss) {sc : Sc} (h : sc ∈ ss) : (bsOf sc).length ≤ 2 := by
  cases sc with
  | none => simp [bsOf]
  | some p => exact (k.sc p.1 p.2 h).2.1.len.2
theorem scAt_mem {ss : List Sc} {v : Int} (h0 : 0 ≤ v) (h1 : v < ss.length) : ss[v.toNat]? = some (scAt ss v) ∧ scAt ss v ∈ ss := by
  have : v.toNat < ss.length := by omega
  have e : ss[v.toNat]? = some ss[v.toNat] := List.getElem?_eq_getElem this
  have e2 : scAt ss v = ss[v.toNat] := by unfold scAt; rw [e]
  rw [e2]; exact ⟨e, List.getElem_mem this⟩
theorem Ok.web {n : Int} {ss : List Sc} (k : Ok n ss) : Bf.Web ss.length (GG ss) where
  le := by have := k.m; omega
  to := by
    intro u hu t ht
    obtain ⟨b, hb, rfl⟩ := List.mem_map.mp ht
    have h := (scAt_mem hu.1 hu.2).2
    unfold brs at hb
    cases e : scAt ss u with
    | none => rw [e] at hb; simp [bsOf] at hb
    | some p =>
      rw [e] at hb h
      exact ((k.sc p.1 p.2 h).2.2 b hb).t
theorem talks_from_eq {sc : Sc} (h : (bsOf sc).length ≤ 2) : m_talks_from [eS sc] = some (.list (tk sc)) := by
  cases sc with
  | none =>
    refine mkF_rt (x := row0) rfl ?_
    simp [b_talks_from, sSeq, sIf, fTst, fBin, fBor, fC, gIsN, isNoneD, sRet, startE, fLst, aNil, maxLen, eS, tk]
  | some p =>
    obtain ⟨s, bs⟩ := p
    refine mkF_rt (x := row0) rfl ?_
    have c1 : fOfX (xLc (fSeq (fVar 2)) (gtTup 3 (gtCons (gtName 3) (gtCons (gtName 4) (gtCons (gtName 5) gtNil)))) tYesF (fTup (aCons (fTup (aCons (fVar 1) (aCons (fVar 3) (aCons (fVar 4) aNil)))) (aCons (fVar 5) aNil))) [3, 4, 5]) [.va (eS (some (s, bs))), .va (.int s), .va (.tuple (bs.map eB)), .no, .no, .no] row0 = some (.list (bs.map (eT s)), row0) := by
      refine lc_eq (ds := bs.map eB) (by simp [fSeq, fVar]) (compL_map eB _ bs fun b hb' => ⟨_, rfl, rfl, ?_⟩) ?_
      · simp [fTup, aCons, aNil, fVar, wipeE, gtName, eT, maxLen]
      · simp only [bsOf] at h; simp only [List.length_map, maxLen]; omega
    have c2 : fTst (fBin gIsN (fBor 0) (fC .none)) [.va (eS (some (s, bs))), .no, .no, .no, .no, .no] row0 = some (false, row0) := by
      simp [fTst, fBin, fBor, fC, gIsN, isNoneD, eS]
    have c3 : sUnp (fVar 0) (gtTup 2 (gtCons (gtName 1) (gtCons (gtName 2) gtNil))) [.va (eS (some (s, bs))), .no, .no, .no, .no, .no] row0 = some (.nx [.va (eS (some (s, bs))), .va (.int s), .va (.tuple (bs.map eB)), .no, .no, .no], row0) := by
      simp [sUnp, fVar, gtTup, gtCons, gtName, gtNil, eS]
    show b_talks_from [.va (eS (some (s, bs))), .no, .no, .no, .no, .no] row0 = _
    simp only [b_talks_from, sSeq, sIf, c2, sNil, c3, sRet, c1, tk]
def webD (ss : List Sc) : D := .list (ss.map fun sc => .list (tk sc))
theorem talk_web_eq {n : Int} {ss : List Sc} (k : Ok n ss) : m_talk_web [eX n ss] = some (webD ss) := by
  refine mkF_rt (x := row0) rfl ?_
  have c1 : fOfX (xLc (fSeq (fBin gAt (fBor 0) (fC (.int 1)))) (gtName 1) tYesF (fCall m_talks_from (aCons (fVar 1) aNil)) [1]) [.va (eX n ss), .no] row0 = some (webD ss, row0) := by
    refine lc_eq (ds := ss.map eS) (by simp [fSeq, fBin, fBor, fC, gAt, eX, atI_z1]) (compL_map eS _ ss fun sc hb' => ⟨_, rfl, rfl, ?_⟩) ?_
    · simp [fCall, aCons, aNil, fVar, wipeE, gtName, talks_from_eq (k.bsl hb')]
    · have := k.m; simp only [List.length_map, maxLen]; omega
  show b_talk_web [.va (eX n ss), .no] row0 = _
  simp only [b_talk_web, sRet, c1]
theorem web_at {ss : List Sc} {v : Int} (h0 : 0 ≤ v) (h1 : v < ss.length) : gAt (webD ss) (.int v) = some (.list (tk (scAt ss v))) := by
  have e := (scAt_mem h0 h1).1
  simp only [webD, gAt]
  exact atI_int h0 (by rw [List.getElem?_map, e]; rfl)
theorem adds1_len (acc : List Int) (t : Int) : (Bf.adds acc [t]).length ≤ acc.length + 1 := by
  rw [Bf.adds_cons, Bf.adds_nil]; split <;> simp
end Lw
namespace Lw
open PySem RT
variable {n : Int} {ss : List Sc}
theorem eX_at {n : Int} {ss : List Sc} {v : Int} (h0 : 0 ≤ v) (h1 : v < ss.length) : gAt (.tuple (ss.map eS)) (.int v) = some (eS (scAt ss v)) := by
  have e := (scAt_mem h0 h1).1
  simp only [gAt]
  exact atI_int h0 (by rw [List.getElem?_map, e]; rfl)
theorem eX_1 (n : Int) (ss : List Sc) : gAt (eX n ss) (.int 1) = some (.tuple (ss.map eS)) := by simp [gAt, eX, atI_z1]
theorem eX_0 (n : Int) (ss : List Sc) : gAt (eX n ss) (.int 0) = some (.int n) := by simp [gAt, eX, atI_z0]
theorem none_eS (sc : Sc) : gIsN (eS sc) .none = some (.bool sc.isNone) := by
  cases sc <;> simp [gIsN, eS, isNoneD]
def spk : Sc → Int
  | none => 0
  | some (s, _) => s
theorem tk_eq (sc : Sc) : tk sc = (bsOf sc).map (eT (spk sc)) := by cases sc <;> rfl
theorem brs_len (k : Ok n ss) {v : Int} (hv : 0 ≤ v ∧ v < ss.length) : (brs ss v).length ≤ 2 := k.bsl (scAt_mem hv.1 hv.2).2
theorem brs_t (k : Ok n ss) {v : Int} (hv : 0 ≤ v ∧ v < ss.length) : ∀ b ∈ brs ss v, 0 ≤ b.2.2 ∧ b.2.2 < (ss.length : Int) := fun b hb => k.web.to v hv b.2.2 (List.mem_map.mpr ⟨b, hb, rfl⟩)
theorem P0i (i : Int) : P0 (.int i) := Or.inr (Or.inl ⟨i, rfl⟩)
theorem pt_ints {l : List Int} (h : l.length ≤ 1000) : Pt 1 (.tuple (l.map .int)) := by
  refine Or.inr ⟨_, Or.inl rfl, by simpa using h, ?_⟩
  intro e he
  obtain ⟨i, _, rfl⟩ := List.mem_map.mp he
  exact P0i i
theorem tupOf_ok {F : FE} {env : FEn} {x x1 : FRow} {ds : List D} (h : F env x = some (.list ds, x1)) : fCall gTupOf (aCons F aNil) env x = some (.tuple ds, x1) := by
  simp only [fCall, aCons, aNil, h, gTupOf]
theorem fTup_ok {t : FA} {env : FEn} {x x1 : FRow} {ds : List D} (h : t env x = some (ds, x1)) (hl : ds.length ≤ maxLen) : fTup t env x = some (.tuple ds, x1) := by
  simp only [fTup, h, if_pos hl]
theorem fBin_cat {fa fb : FE} {env : FEn} {x x1 x2 : FRow} {xs ys : List D} (h : fa env x = some (.tuple xs, x1)) (h' : fb env x1 = some (.tuple ys, x2)) (hl : xs.length + ys.length ≤ maxLen) : fBin gAdd fa fb env x = some (.tuple (xs ++ ys), x2) := by
  simp only [fBin, h, h', gAdd, gOr, gI, gCatT, if_pos hl]
theorem aCons2 {fa fb : FE} {env : FEn} {x x1 x2 : FRow} {d e : D} (h : fa env x = some (d, x1)) (h' : fb env x1 = some (e, x2)) : aCons fa (aCons fb aNil) env x = some ([d, e], x2) := by
  simp only [aCons, aNil, h, h']
theorem fLst_ok {t : FA} {env : FEn} {x x1 : FRow} {ds : List D} (h : t env x = some (ds, x1)) (hl : ds.length ≤ maxLen) : fLst t env x = some (.list ds, x1) := by
  simp only [fLst, h, if_pos hl]
theorem ml (k : Nat) (h : k ≤ 1000) : k ≤ maxLen := by simp only [maxLen]; omega
theorem sSet_va {i : Nat} {f : FE} {env : FEn} {x x1 : FRow} {d : D} (h : f env x = some (d, x1)) : sSet i (xVal f) env x = some (.nx (env.set i (.va d)), x1) := by
  simp only [sSet, xVal, h]
theorem fOr_eq {fa fb : FE} {env : FEn} {x : FRow} {a b : Bool} (h : fa env x = some (.bool a, x)) (h' : fb env x = some (.bool b, x)) : fOr fa fb env x = some (.bool (a || b), x) := by
  cases a <;> simp only [fOr, h, h', Bool.true_or, Bool.false_or]
theorem fAnd_eq {fa fb : FE} {env : FEn} {x : FRow} {a b : Bool} (h : fa env x = some (.bool a, x)) (h' : fb env x = some (.bool b, x)) : fAnd fa fb env x = some (.bool (a && b), x) := by
  cases a <;> simp only [fAnd, h, h', Bool.true_and, Bool.false_and]
theorem fBin_eq {gd : D → D → Option D} {fa fb : FE} {env : FEn} {x x1 x2 : FRow} {d e r : D} (h : fa env x = some (d, x1)) (h' : fb env x1 = some (e, x2)) (hg : gd d e = some r) : fBin gd fa fb env x = some (r, x2) := by
  simp only [fBin, h, h', hg]
theorem fCall_eq {m : List D → Option D} {fa : FA} {env : FEn} {x x1 : FRow} {ds : List D} {r : D} (h : fa env x = some (ds, x1)) (hm : m ds = some r) : fCall m fa env x = some (r, x1) := by
  simp only [fCall, h, hm]
theorem aCons1 {fa : FE} {env : FEn} {x x1 : FRow} {d : D} (h : fa env x = some (d, x1)) : aCons fa aNil env x = some ([d], x1) := by
  simp only [aCons, aNil, h]
theorem eB_2 (b : Br) : gAt (eB b) (.int 2) = some (.int b.2.2) := by simp [gAt, eB, atI_z2]
theorem fCallR_eq {i : Nat} {m : List D → FRow → Option (D × FRow)} {fa : FA} {env : FEn} {x x1 x2 : FRow} {ds : List D} {r : D} (he : env[i]? = some .rw) (h : fa env x = some (ds, x1)) (hm : m ds x1 = some (r, x2)) : fCallR i m fa env x = some (r, x2) := by
  simp only [fCallR, he, h, hm]
theorem aCons_eq {f : FE} {t : FA} {env : FEn} {x x1 x2 : FRow} {d : D} {ds : List D} (h : f env x = some (d, x1)) (h' : t env x1 = some (ds, x2)) : aCons f t env x = some (d :: ds, x2) := by
  simp only [aCons, h, h']
theorem if_no {t : FT} {f : FS} {env : FEn} {x : FRow} (h : t env x = some (false, x)) : sIf t f sNil env x = some (.nx env, x) := by
  simp only [sIf, h, sNil]
theorem prog {m : List D → Option D} {i : Nat} {env : FEn} {x : FRow} {d r : D} (h : fVar i env x = some (d, x)) (hm : m [d] = some r) : fCall m (aCons (fVar i) aNil) env x = some (r, x) := fCall_eq (aCons1 h) hm
theorem for_eq {f : FA} {gt : FGt} {b : FS} {env : FEn} {x x1 : FRow} {ds : List D} {r : Option (FRs × FRow)} (h : f env x = some (ds, x1)) (hr : forL gt b ds env x1 = r) : sFor f gt b env x = r := by
  simp only [sFor, h, hr]
theorem xLst_ok {t : FA} {env : FEn} {x x1 : FRow} {ds : List D} (h : t env x = some (ds, x1)) (hl : ds.length ≤ maxLen) : xLst t env x = some (.ow (.lst ds), x1) := by
  simp only [xLst, h, if_pos hl]
end Lw
namespace Wb
abbrev Web (μ : Type) := List (List (μ × Int))
variable {μ : Type}
def stp (w : Web μ) (v : Int) : List (μ × Int) := (w[v.toNat]?).getD []
def cnt (w : Web μ) (gs : List Int) : Nat → Int → Int
  | 0, v => if v ∈ gs then 1 else 0
  | k + 1, v => ((stp w v).map fun p => cnt w gs k p.2).sum
def nxt (w : Web μ) (r : List μ × Int) : List (List μ × Int) := (stp w r.2).map fun p => (r.1 ++ [p.1], p.2)
def lev (w : Web μ) : Nat → List (List μ × Int)
  | 0 => [([], 0)]
  | k + 1 => (lev w k).flatMap (nxt w)
structure WOk (w : Web μ) : Prop where
  n : 1 ≤ w.length ∧ w.length ≤ 8
  k : ∀ st ∈ w, st.length ≤ 2
  to : ∀ st ∈ w, ∀ p ∈ st, 0 ≤ p.2 ∧ p.2 < (w.length : Int)
variable {w : Web μ} {gs : List Int}
theorem stp_mem (h : WOk w) {v : Int} (h0 : 0 ≤ v) (h1 : v < w.length) : w[v.toNat]? = some (stp w v) ∧ stp w v ∈ w := by
  have hl : v.toNat < w.length := by omega
  have e : w[v.toNat]? = some w[v.toNat] := List.getElem?_eq_getElem hl
  have e2 : stp w v = w[v.toNat] := by unfold stp; rw [e]; rfl
  rw [e2]; exact ⟨e, List.getElem_mem hl⟩
def kp (w : Web μ) (gs : List Int) (k i : Nat) : List (List μ × Int) := (lev w i).filter fun r => cnt w gs k r.2 != 0
theorem flat_le {α β : Type} {f : α → List β} {b : Nat} : ∀ l : List α, (∀ a ∈ l, (f a).length ≤ b) → (l.flatMap f).length ≤ l.length * b
  | [], _ => by simp
  | a :: l, h => by
    have h1 := flat_le l fun x hx => h x (by simp [hx])
    have h2 := h a (by simp)
    rw [List.flatMap_cons, List.length_append, List.length_cons, Nat.succ_mul]
    omega
theorem stp_len (h : WOk w) (v : Int) : (stp w v).length ≤ 2 := by
  unfold stp
  cases e : w[v.toNat]? with
  | none => simp
  | some s => exact h.k s (List.mem_of_getElem? e)
theorem stp_to (h : WOk w) {v : Int} : ∀ p ∈ stp w v, 0 ≤ p.2 ∧ p.2 < (w.length : Int) := by
  intro p hp
  unfold stp at hp
  cases e : w[v.toNat]? with
  | none => rw [e] at hp; simp at hp
  | some s => rw [e] at hp; exact h.to s (List.mem_of_getElem? e) p hp
/-! order of rows -/
variable {lt : μ → μ → Prop}
/-! the rows in the order of coming -/
def G (w : Web μ) (v : Int) : List Int := (stp w v).map (·.2)
theorem web_ok (h : WOk w) : Bf.Web w.length (G w) where
  le := h.n.2
  to := by
    intro u hu t ht
    obtain ⟨p, hp, rfl⟩ := List.mem_map.mp ht
    exact stp_to h p hp
end Wb
namespace Lw
open PySem RT Wb
/-! webs of marks that are tuples of ints and texts -/
abbrev Mk := List L2.Key
def mD (m : Mk) : D := .tuple (m.map keyD)
def eP (p : Mk × Int) : D := .tuple [mD p.1, .int p.2]
def stD (st : List (Mk × Int)) : D := .list (st.map eP)
def wD (W : Web Mk) : D := .list (W.map stD)
abbrev il (l : List Int) : D := .list (l.map .int)
theorem dKey_k : ∀ k : L2.Key, dKey (keyD k) = some k
  | .inl i => rfl
  | .inr s => rfl
theorem dKeys_m : ∀ m : Mk, dKeys (m.map keyD) = some m
  | [] => rfl
  | k :: m => by simp [dKeys, dKey_k, dKeys_m m]
theorem dKeyT_m (m : Mk) : dKeyT (mD m) = some m := dKeys_m m
theorem nob_n {k : Nat} (h : k ≤ 100000) : k < maxLen := by simp only [maxLen]; omega
theorem one_ml {d : D} : [d].length ≤ maxLen := by rw [List.length_singleton]; exact ml 1 (by omega)
theorem two_ml {d e : D} : [d, e].length ≤ maxLen := by rw [List.length_cons, List.length_singleton]; exact ml 2 (by omega)
theorem tri_ml {d e f : D} : [d, e, f].length ≤ maxLen := by rw [List.length_cons, List.length_cons, List.length_singleton]; exact ml 3 (by omega)
theorem nil_ml : ([] : List D).length ≤ maxLen := by rw [List.length_nil]; exact ml 0 (by omega)
theorem fB {gd : D → D → Option D} {fa fb : FE} {env : FEn} {x : FRow} {d e r : D} (h : fa env x = some (d, x)) (h' : fb env x = some (e, x)) (hg : gd d e = some r) : fBin gd fa fb env x = some (r, x) := fBin_eq h h' hg
theorem fK {m : List D → Option D} {fa : FA} {env : FEn} {x : FRow} {ds : List D} {r : D} (h : fa env x = some (ds, x)) (hm : m ds = some r) : fCall m fa env x = some (r, x) := fCall_eq h hm
theorem aC1 {fa : FE} {env : FEn} {x : FRow} {d : D} (h : fa env x = some (d, x)) : aCons fa aNil env x = some ([d], x) := aCons1 h
theorem aC2 {fa fb : FE} {env : FEn} {x : FRow} {d e : D} (h : fa env x = some (d, x)) (h' : fb env x = some (e, x)) : aCons fa (aCons fb aNil) env x = some ([d, e], x) := aCons2 h h'
theorem aC3 {fa fb fc : FE} {env : FEn} {x : FRow} {d e f : D} (h : fa env x = some (d, x)) (h' : fb env x = some (e, x)) (h'' : fc env x = some (f, x)) : aCons fa (aCons fb (aCons fc aNil)) env x = some ([d, e, f], x) := aCons_eq h (aCons2 h' h'')
theorem vV {i : Nat} {env : FEn} {x : FRow} {d : D} (h : env[i]? = some (.va d)) : fVar i env x = some (d, x) := by simp only [fVar, h]
theorem vB {i : Nat} {env : FEn} {x : FRow} {d : D} (h : env[i]? = some (.va d)) : fBor i env x = some (d, x) := by simp only [fBor, h]
theorem vO {i : Nat} {env : FEn} {x : FRow} {d : OwD} (h : env[i]? = some (.ow d)) : fBor i env x = some (d.d, x) := by simp only [fBor, h]
theorem sqL {f : FE} {env : FEn} {x : FRow} {ds : List D} (h : f env x = some (.list ds, x)) : fSeq f env x = some (ds, x) := by simp only [fSeq, h]
theorem sqT {f : FE} {env : FEn} {x : FRow} {ds : List D} (h : f env x = some (.tuple ds, x)) : fSeq f env x = some (ds, x) := by simp only [fSeq, h]
theorem sA {i : Nat} {f : FE} {env : FEn} {x : FRow} {d : D} {ds : List D} (h : f env x = some (d, x)) (he : env[i]? = some (.ow (.lst ds))) (hl : ds.length ≤ 100000) : sApp i f env x = some (.nx (env.set i (.ow (.lst (ds ++ [d])))), x) := by
  have : ds.length < maxLen := by simp only [maxLen]; omega
  simp only [sApp, h, he, if_pos this]
theorem sR {f : FE} {env : FEn} {x : FRow} {d : D} (h : f env x = some (d, x)) : sRet f env x = some (.rt d, x) := by simp only [sRet, h]
theorem sV {i : Nat} {f : FE} {env : FEn} {x : FRow} {d : D} (h : f env x = some (d, x)) : sSet i (xVal f) env x = some (.nx (env.set i (.va d)), x) := sSet_va h
theorem forL_dr {α : Type} {gt : FGt} {b : FS} {x : FRow} (enc : α → D) (l : List α) (E : Nat → FEn → Prop) (h : ∀ i (hi : i < l.length) env, E i env → ∃ e e2, gt (enc l[i]) env = some e ∧ b e x = some (.nx e2, x) ∧ E (i + 1) e2) :
    ∀ (n k : Nat), k + n = l.length → ∀ env, E k env → ∃ e, forL gt b ((l.drop k).map enc) env x = some (.nx e, x) ∧ E l.length e
  | 0, k, hk, env, r => by
    have : k = l.length := by omega
    subst this
    exact ⟨env, by rw [List.drop_length]; rfl, r⟩
  | n + 1, k, hk, env, r => by
    have hi : k < l.length := by omega
    obtain ⟨e, e2, h1, h2, h3⟩ := h k hi env r
    obtain ⟨e3, h4, h5⟩ := forL_dr enc l E h n (k + 1) (by omega) e2 h3
    refine ⟨e3, ?_, h5⟩
    rw [List.drop_eq_getElem_cons hi, List.map_cons, forL, h1]
    simp only [h2]
    exact h4
theorem forL_ix {α : Type} {gt : FGt} {b : FS} {x : FRow} (enc : α → D) (l : List α) (E : Nat → FEn → Prop) (env : FEn) (r : E 0 env) (h : ∀ i (hi : i < l.length) env, E i env → ∃ e e2, gt (enc l[i]) env = some e ∧ b e x = some (.nx e2, x) ∧ E (i + 1) e2) :
    ∃ e, forL gt b (l.map enc) env x = some (.nx e, x) ∧ E l.length e := forL_dr enc l E h l.length 0 (by omega) env r
variable {W : Web Mk} {gs : List Int}
theorem wD_at (h : WOk W) {v : Int} (h0 : 0 ≤ v) (h1 : v < W.length) : gAt (wD W) (.int v) = some (stD (stp W v)) := by
  have e := (stp_mem h h0 h1).1
  simp only [wD, gAt]
  exact atI_int h0 (by rw [List.getElem?_map, e]; rfl)
/-! counts_to -/
/-! rows_to -/
theorem compL2_map {α β : Type} {gt : FGt} {f1 : FA} {gt1 : FGt} {t1 : FT} {fe : FE} {vs1 : List Nat} {env : FEn} {x : FRow} (enc : α → D) (inner : α → List D) (g : α → List D) : ∀ (l : List α), (∀ a ∈ l, ∃ e, gt (enc a) env = some e ∧ f1 e x = some (inner a, x) ∧ compL gt1 t1 fe (wipeE e vs1) (inner a) x = some (g a, x)) → compL2 gt tYesF f1 gt1 t1 fe vs1 env (l.map enc) x = some (l.flatMap g, x)
  | [], _ => rfl
  | a :: l, h => by
    obtain ⟨e, h1, h2, h3⟩ := h a (by simp)
    have ih := compL2_map (β := β) enc inner g l fun b hb => h b (by simp [hb])
    rw [List.map_cons, compL2, h1]
    simp only [tYesF, h2, h3, ih, List.flatMap_cons]
/-! place_behind -/
def go (W : Web Mk) : Int → List Mk → Option Int
  | v, [] => some v
  | v, m :: r => match (stp W v).find? (fun p => decide (p.1 = m)) with
    | some p => go W p.2 r
    | none => none
def dcD (st : List (Mk × Int)) : List (D × D) := st.map fun p => (mD p.1, .int p.2)
theorem put_new {acc st : List (Mk × Int)} {p : Mk × Int} (h : ∀ q ∈ acc, q.1 ≠ p.1) : putD dKeyT (dcD acc) (mD p.1) p.1 (.int p.2) = dcD (acc ++ [p]) := by
  unfold putD
  have : ((dcD acc).any fun q => decide (dKeyT q.1 = some p.1)) = false := by
    rw [List.any_eq_false]
    intro q hq
    obtain ⟨a, ha, rfl⟩ := List.mem_map.mp hq
    simp only [dKeyT_m, decide_eq_true_eq, Option.some.injEq]
    exact h a ha
  rw [this]
  simp [dcD]
theorem val_st (st : List (Mk × Int)) (m : Mk) : valD dKeyT (dcD st) m = (st.find? fun p => decide (p.1 = m)).map fun p => .int p.2 := by
  induction st with
  | nil => rfl
  | cons p st ih =>
    unfold valD at ih ⊢
    rw [show dcD (p :: st) = (mD p.1, .int p.2) :: dcD st from rfl, List.find?_cons, List.find?_cons]
    simp only [dKeyT_m, Option.some.injEq]
    by_cases c : p.1 = m
    · simp [c]
    · simp [c, ih]
end Lw
namespace Lw
open PySem RT Wb
/-! order of marks, rows; sorted lists stay -/
def mlt (a b : Mk) : Prop := PySem.W.dataLt (mD a).py (mD b).py = true ∧ PyData.eqv (mD a).py (mD b).py = false
def shp (m : Mk) : List Bool := m.map Sum.isLeft
theorem key_alike {a b : L2.Key} (h : a.isLeft = b.isLeft) : PySem.W.alike (keyD a).py (keyD b).py = true := by
  cases a <;> cases b <;> simp_all [keyD, D.py, PySem.W.alike]
theorem keys_alike : ∀ {a b : Mk}, shp a = shp b → PySem.W.alikeAll (pyAll (a.map keyD)) (pyAll (b.map keyD)) = true
  | [], [], _ => by simp [pyAll, PySem.W.alikeAll]
  | x :: a, y :: b, h => by
    simp only [shp, List.map_cons, List.cons.injEq] at h
    simp only [List.map_cons, pyAll, PySem.W.alikeAll, key_alike h.1, keys_alike h.2, Bool.and_self]
  | [], _ :: _, h => by simp [shp] at h
  | _ :: _, [], h => by simp [shp] at h
theorem m_alike {a b : Mk} (h : shp a = shp b) : PySem.W.alike (mD a).py (mD b).py = true := by
  simp only [mD, D.py, PySem.W.alike, keys_alike h]
def kOk : L2.Key → Prop
  | .inl _ => True
  | .inr s => PyData.strOk s = true
def MOk (S : List Bool) (m : Mk) : Prop := shp m = S ∧ ∀ k ∈ m, kOk k
theorem sort_none {x : D} {xs : List D} {X : List D} (hx : intsD (x :: xs) = none) : gSort [.list (.tuple (x :: xs) :: X)] = none := by
  simp only [gSort, cOr, gSortI, intsD, gSortT, tupsD, hx]
theorem pt_key {k : L2.Key} (h : kOk k) : Pt 0 (keyD k) := by
  cases k with
  | inl i => exact Or.inr (Or.inl ⟨i, rfl⟩)
  | inr s => exact Or.inr (Or.inr (Or.inl ⟨s, rfl, h⟩))
theorem pt_m {S : List Bool} {m : Mk} (h : MOk S m) (hS : S.length ≤ 1000) : Pt 1 (mD m) := Or.inr ⟨m.map keyD, Or.inl rfl, by
  have := congrArg List.length h.1
  simp only [shp, List.length_map] at this ⊢; omega, by
  intro e he
  obtain ⟨k, hk, rfl⟩ := List.mem_map.mp he
  exact pt_key (h.2 k hk)⟩
theorem pt_list {k : Nat} {ds : List D} (h : ds.length ≤ 1000) (hd : ∀ d ∈ ds, Pt k d) : Pt (k + 1) (.list ds) := Or.inr ⟨ds, Or.inr rfl, h, hd⟩
theorem alikeB_of {α : Type} {f : α → D} {l : List α} (h : ∀ a ∈ l, ∀ b ∈ l, PySem.W.alike (f a).py (f b).py = true) : alikeB (l.map f) = true := by
  unfold alikeB
  rw [List.all_eq_true]
  intro d hd
  obtain ⟨a, ha, rfl⟩ := List.mem_map.mp hd
  rw [List.all_eq_true]
  intro e he
  obtain ⟨b, hb, rfl⟩ := List.mem_map.mp he
  exact h a ha b hb
/-! the web of a script -/
variable {n : Int} {ss : List Sc}
theorem mlt_ne {a b : Mk} (h : mlt a b) : a ≠ b := fun e => by
  subst e
  have := h.1
  rw [PySem.W.dataLt, PyProof.Rows.lex_irrefl] at this; cases this
theorem asc_nd {st : List (Mk × Int)} (h : st.Pairwise fun p q => mlt p.1 q.1) : (st.map (·.1)).Nodup := by
  unfold List.Nodup
  rw [List.pairwise_map]
  exact h.imp mlt_ne
abbrev S3 : List Bool := [true, true, true]
end Lw
namespace Lw
open PySem RT Wb
variable {n : Int} {ss : List Sc}
theorem check_number_ok {m a b : Int} (h : a ≤ m ∧ m ≤ b) : m_check_number [.int m, .int a, .int b] = some .none := by
  refine mkF_nx (e := [.va (.int m), .va (.int a), .va (.int b)]) (x := row0) rfl ?_
  have : fCall m_is_number (aCons (fVar 0) (aCons (fVar 1) (aCons (fVar 2) aNil))) [.va (.int m), .va (.int a), .va (.int b)] row0 = some (.bool true, row0) := by
    refine fK (aC3 (vV rfl) (vV rfl) (vV rfl)) ?_
    rw [is_number_eq]; simp [h.1, h.2]
  show b_check_number [.va (.int m), .va (.int a), .va (.int b)] row0 = _
  simp only [b_check_number, sIf, tNotF, fTru, this, truD, Bool.not_true, sNil]
/-! shortest_way -/
/-! follow -/
theorem find_nd {st : List (Mk × Int)} (h : (st.map (·.1)).Nodup) {p : Mk × Int} (hp : p ∈ st) : (st.find? fun q => decide (q.1 = p.1)) = some p := by
  induction st with
  | nil => simp at hp
  | cons a st ih =>
    rw [List.find?_cons]
    rw [List.map_cons, List.nodup_cons] at h
    rcases List.mem_cons.mp hp with rfl | hp
    · simp
    · have : a.1 ≠ p.1 := fun e => h.1 (e ▸ List.mem_map.mpr ⟨p, hp, rfl⟩)
      simp only [this, decide_false]
      exact ih h.2 hp
end Lw
namespace Lw
open PySem RT Wb
/-! webs of marks that are tuples of ints and texts -/
variable {W : Web Mk} {gs : List Int}
variable {W : Web Mk}
/-! coming -/
def cwE (W : Web Mk) (v : Int) (O : List Int) (at' : Int) (p q r : FSl) : FEn := [.va (wD W), .va (.int v), .ow (.lst (O.map .int)), .ow (.dk (dS O)), .va (.int at'), p, q, r]
theorem cw_body {v t : Int} {O : List Int} (hO : O.length ≤ 100) (k : Int) (p q : FSl) :
    sIf (fTst (fBin gNotInA (fBor 7) (fBor 3))) (sSeq (sDPut 3 (fVar 7) (fC (.bool true))) (sApp 2 (fVar 7))) sNil (cwE W v O k p q (.va (.int t))) row0 = some (.nx (cwE W v (Bf.adds O [t]) k p q (.va (.int t))), row0) := by
  have hl : (dS O).length < maxLen := by simp only [dS, List.length_map, maxLen]; omega
  have hl2 : (O.map D.int).length < maxLen := by simp only [List.length_map, maxLen]; omega
  have hp := dS_put t O
  by_cases c : t ∈ O
  · have e : Bf.adds O [t] = O := by rw [Bf.adds_cons, Bf.adds_nil, if_pos c]
    rw [e]
    simp [sIf, fTst, fBin, fBor, cwE, OwD.d, dS_notin, c, sNil]
  · have e : Bf.adds O [t] = O ++ [t] := by rw [Bf.adds_cons, Bf.adds_nil, if_neg c]
    rw [e] at hp ⊢
    have c1 : fTst (fBin gNotInA (fBor 7) (fBor 3)) (cwE W v O k p q (.va (.int t))) row0 = some (true, row0) := by
      simp [fTst, fBin, fBor, cwE, OwD.d, dS_notin, c]
    have c2 : sDPut 3 (fVar 7) (fC (.bool true)) (cwE W v O k p q (.va (.int t))) row0 = some (.nx [.va (wD W), .va (.int v), .ow (.lst (O.map .int)), .ow (.dk (dS (O ++ [t]))), .va (.int k), p, q, .va (.int t)], row0) := by
      simp [sDPut, fVar, fC, cwE, dKey, hl, hp]
    have c3 : sApp 2 (fVar 7) [.va (wD W), .va (.int v), .ow (.lst (O.map .int)), .ow (.dk (dS (O ++ [t]))), .va (.int k), p, q, .va (.int t)] row0 = some (.nx (cwE W v (O ++ [t]) k p q (.va (.int t))), row0) := by
      simp only [sApp, fVar, List.getElem?_cons_succ, List.getElem?_cons_zero, if_pos hl2]
      simp [cwE]
    simp only [sIf, c1, sSeq, c2, c3]
theorem cw_inner {v : Int} (bs : List (Mk × Int)) (O : List Int) (hO : O.length + bs.length ≤ 100) (k : Int) (p q r : FSl) :
    ∃ q' r', forL (gtTup 2 (gtCons (gtName 6) (gtCons (gtName 7) gtNil))) (sIf (fTst (fBin gNotInA (fBor 7) (fBor 3))) (sSeq (sDPut 3 (fVar 7) (fC (.bool true))) (sApp 2 (fVar 7))) sNil) (bs.map eP) (cwE W v O k p q r) row0 = some (.nx (cwE W v (Bf.adds O (bs.map (·.2))) k p q' r'), row0) := by
  induction bs generalizing O q r with
  | nil => exact ⟨q, r, rfl⟩
  | cons b bs ih =>
    simp only [List.length_cons] at hO
    have h1 := adds1_len O b.2
    obtain ⟨q', r', e⟩ := ih (Bf.adds O [b.2]) (by omega) (.va (mD b.1)) (.va (.int b.2))
    refine ⟨q', r', ?_⟩
    have c1 : gtTup 2 (gtCons (gtName 6) (gtCons (gtName 7) gtNil)) (eP b) (cwE W v O k p q r) = some (cwE W v O k p (.va (mD b.1)) (.va (.int b.2))) := rfl
    have c2 := cw_body (W := W) (v := v) (t := b.2) (O := O) (by omega) k p (.va (mD b.1))
    rw [List.map_cons, forL, c1]
    simp only [c2]
    exact e
theorem coming_W (h : WOk W) {v : Int} (hv : 0 ≤ v ∧ v < W.length) : m_coming [wD W, .int v] = some (il (Bf.ord (G W) v)) := by
  have Wb := web_ok h
  have hm := h.n
  obtain ⟨stop, hs1, hs2, hs3⟩ := first_ex (P := fun j => (Bf.bf (G W) v j).length ≤ j) 8 (by have := Bf.bf_len hv Wb.to 8; omega)
  have hO : ∀ j, (Bf.bf (G W) v j).length ≤ 8 := fun j => by have := Bf.bf_len hv Wb.to j; omega
  obtain ⟨e2, h1, p, q, r, h2⟩ := whL_inv (t := fTst (fBin gLtX (fBor 4) (fCall gLen (aCons (fBor 2) aNil)))) (b := sSeq (sSet 5 (xVal (fBin gAt (fBor 2) (fBor 4))))
    (sSeq (sFor (fSeq (fBin gAt (fBor 0) (fBor 5))) (gtTup 2 (gtCons (gtName 6) (gtCons (gtName 7) gtNil))) (sIf (fTst (fBin gNotInA (fBor 7) (fBor 3))) (sSeq (sDPut 3 (fVar 7) (fC (.bool true)))
    (sApp 2 (fVar 7))) sNil))
    (sAug 4 (fC (.int 1))))) (x := row0) (fun j env => ∃ p q r, env = cwE W v (Bf.bf (G W) v j) j p q r) stop (by
      rintro j _ ⟨p, q, r, rfl⟩ hj
      have hlt : j < (Bf.bf (G W) v j).length := by have := hs3 j hj; omega
      have hz : (Bf.bf (G W) v j)[j]? = some (Bf.bf (G W) v j)[j] := List.getElem?_eq_getElem hlt
      have hu := Bf.bf_in (fun x => 0 ≤ x ∧ x < (W.length : Int)) hv Wb.to j _ (List.getElem_mem hlt)
      generalize hue : (Bf.bf (G W) v j)[j] = u at hz hu
      have hstep : Bf.bf (G W) v (j + 1) = Bf.adds (Bf.bf (G W) v j) (G W u) := by rw [Bf.bf, hz]
      constructor
      · simp [fTst, fBin, fBor, fCall, aCons, aNil, cwE, OwD.d, gLen, gLtX, gLt, gOr, gI, hlt]
      · have ha : L2.atI ((Bf.bf (G W) v j).map D.int) (j : Int) = some (.int u) := atI_nat (by rw [List.getElem?_map, hz]; rfl)
        have c1 : sSet 5 (xVal (fBin gAt (fBor 2) (fBor 4))) (cwE W v (Bf.bf (G W) v j) j p q r) row0 = some (.nx (cwE W v (Bf.bf (G W) v j) j (.va (.int u)) q r), row0) := sV (fB (vO rfl) (vB rfl) ha)
        have hb2 := stp_len h u
        obtain ⟨q', r', e⟩ := cw_inner (W := W) (v := v) (stp W u) (Bf.bf (G W) v j) (by have := hO j; omega) j (.va (.int u)) q r
        have c2 : fSeq (fBin gAt (fBor 0) (fBor 5)) (cwE W v (Bf.bf (G W) v j) j (.va (.int u)) q r) row0 = some ((stp W u).map eP, row0) := sqL (fB (vB rfl) (vB rfl) (wD_at h hu.1 hu.2))
        refine ⟨cwE W v (Bf.bf (G W) v (j + 1)) (j + 1 : Nat) (.va (.int u)) q' r', ?_, _, _, _, rfl⟩
        simp only [sSeq, c1, sFor, c2, e]
        rw [hstep]
        simp [sAug, fC, cwE, G]) (by
      rintro _ ⟨p, q, r, rfl⟩
      have : ¬ stop < (Bf.bf (G W) v stop).length := by omega
      simp [fTst, fBin, fBor, fCall, aCons, aNil, cwE, OwD.d, gLen, gLtX, gLt, gOr, gI, this]) 1000 0 (cwE W v [v] 0 .no .no .no) ⟨_, _, _, rfl⟩ (by omega) (by omega)
  subst h2
  rw [Bf.ord_end Wb hv hs2] at h1
  refine mkF_rt (x := row0) rfl ?_
  have c1 : sSet 2 (xLst (aCons (fVar 1) aNil)) [.va (wD W), .va (.int v), .no, .no, .no, .no, .no, .no] row0 = some (.nx [.va (wD W), .va (.int v), .ow (.lst [.int v]), .no, .no, .no, .no, .no], row0) := by
    simp [sSet, xLst, aCons, aNil, fVar, maxLen]
  have c2 : sSet 3 (xDict1 (fVar 1) (fC (.bool true))) [.va (wD W), .va (.int v), .ow (.lst [.int v]), .no, .no, .no, .no, .no] row0 = some (.nx [.va (wD W), .va (.int v), .ow (.lst [.int v]), .ow (.dk (dS [v])), .no, .no, .no, .no], row0) := by
    simp [sSet, xDict1, fVar, fC, dKey, dS]
  have c3 : sSet 4 (xVal (fC (.int 0))) [.va (wD W), .va (.int v), .ow (.lst [.int v]), .ow (.dk (dS [v])), .no, .no, .no, .no] row0 = some (.nx (cwE W v [v] 0 .no .no .no), row0) := by
    simp [sSet, xVal, fC, cwE]
  show b_coming [.va (wD W), .va (.int v), .no, .no, .no, .no, .no, .no] row0 = _
  unfold b_coming
  rw [sSeq_nx c1, sSeq_nx c2, sSeq_nx c3, sSeq_nx h1]
  simp [sFrz, eFrz, sRet, fVar, cwE, OwD.d]
/-! order of marks, rows; sorted lists stay -/
end Lw
namespace Lw
open PySem RT Wb
/-! events, the web of what an actor does not hear of, joined sets -/
abbrev E := Bool × Int × Int
def kS (b : Bool) : Str := if b then Str.ofString "say" else Str.ofString "hear"
def eE (e : E) : D := .tuple [.str (kS e.1), .int e.2.1, .int e.2.2]
def oE : Option E → D
  | none => .none
  | some e => eE e
def ev (a s : Int) (b : Br) : Option E := if a = s then some (true, b.1, b.2.1) else if a = b.1 then some (false, s, b.2.1) else none
theorem event_of_eq (s a : Int) (b : Br) : m_event_of [.tuple [.int s, .int b.1, .int b.2.1], .int a] = some (oE (ev a s b)) := by
  by_cases h1 : a = s
  · subst h1
    simp [m_event_of, b_event_of, ev, oE, eE, kS, fVar, fBor, fC, aNil, aCons, fTup, fBin, fTst, sRet, sNil, sSeq, sIf, sUnp, gtName, gtNil, gtCons, gtTup, mkF, startE, maxLen, eq_int]
  · by_cases h2 : a = b.1
    · subst h2
      simp [m_event_of, b_event_of, ev, oE, eE, kS, fVar, fBor, fC, aNil, aCons, fTup, fBin, fTst, sRet, sNil, sSeq, sIf, sUnp, gtName, gtNil, gtCons, gtTup, mkF, startE, maxLen, eq_int, h1]
    · simp [m_event_of, b_event_of, ev, oE, eE, kS, fVar, fBor, fC, aNil, aCons, fTup, fBin, fTst, sRet, sNil, sSeq, sIf, sUnp, gtName, gtNil, gtCons, gtTup, mkF, startE, maxLen, eq_int, h1, h2]
variable {n : Int} {ss : List Sc} {a : Int}
theorem scAt_brs {v : Int} {b : Br} (h : b ∈ brs ss v) : ∃ bs, scAt ss v = some (spk (scAt ss v), bs) ∧ b ∈ bs := by
  unfold brs at h
  cases c : scAt ss v with
  | none => rw [c] at h; cases h
  | some p => rw [c] at h; exact ⟨p.2, rfl, h⟩
def evB (ss : List Sc) (a v : Int) (b : Br) : Option E := ev a (spk (scAt ss v)) b
theorem law_event_eq {v : Int} (h0 : 0 ≤ v) (h1 : v < ss.length) {b : Br} (hb : b ∈ brs ss v) : m_law_event [eX n ss, .int v, eB b, .int a] = some (oE (evB ss a v b)) := by
  obtain ⟨bs, e, _⟩ := scAt_brs hb
  have e1 := eX_at (n := n) h0 h1
  rw [e] at e1
  have e2 : gAt (eS (some (spk (scAt ss v), bs))) (.int 0) = some (.int (spk (scAt ss v))) := by simp [eS, gAt, atI_z0]
  have e3 : gAt (eB b) (.int 0) = some (.int b.1) := by simp [eB, gAt, atI_z0]
  have e4 : gAt (eB b) (.int 1) = some (.int b.2.1) := by simp [eB, gAt, atI_z1]
  unfold evB
  generalize spk (scAt ss v) = s at e1 e2 ⊢
  have ne : ∀ q : Int, q = q := fun _ => rfl
  by_cases h1 : a = s
  · subst h1
    simp [m_law_event, b_law_event, ev, oE, eE, kS, fVar, fBor, fC, aNil, aCons, fTup, fBin, fTst, fIf, sRet, sNil, sSeq, sSet, xVal, sIf, mkF, startE, maxLen, eq_int, eX_1, e1, e2, e3, e4]
  · by_cases h2 : a = b.1
    · subst h2
      simp [m_law_event, b_law_event, ev, oE, eE, kS, fVar, fBor, fC, aNil, aCons, fTup, fBin, fTst, fIf, sRet, sNil, sSeq, sSet, xVal, sIf, mkF, startE, maxLen, eq_int, eX_1, e1, e2, e3, e4, h1]
    · simp [m_law_event, b_law_event, ev, oE, eE, kS, fVar, fBor, fC, aNil, aCons, fTup, fBin, fTst, fIf, sRet, sNil, sSeq, sSet, xVal, sIf, mkF, startE, maxLen, eq_int, eX_1, e1, e2, e3, e4, h1, h2]
theorem law_branches_eq {v : Int} (h0 : 0 ≤ v) (h1 : v < ss.length) : m_law_branches [eX n ss, .int v] = some (.tuple ((brs ss v).map eB)) := by
  refine mkF_rt (x := row0) rfl ?_
  have e := eX_at (n := n) h0 h1
  have e1 := eX_1 n ss
  unfold brs
  cases c : scAt ss v with
  | none =>
    rw [c] at e
    have e2 : fBin gAt (fBin gAt (fBor 0) (fC (.int 1))) (fBor 1) [.va (eX n ss), .va (.int v)] row0 = some (.none, row0) := by simp [fBin, fBor, fC, e1, e, eS]
    have e3 : fTst (fBin gNotN (fBin gAt (fBin gAt (fBor 0) (fC (.int 1))) (fBor 1)) (fC .none)) [.va (eX n ss), .va (.int v)] row0 = some (false, row0) := by
      rw [fTst, fBin, e2]; simp [fC, gNotN, isNoneD]
    show b_law_branches [.va (eX n ss), .va (.int v)] row0 = _
    simp only [b_law_branches, sRet, fIf, e3]
    simp [fTup, aNil, maxLen, bsOf]
  | some p =>
    rw [c] at e
    have e2 : fBin gAt (fBin gAt (fBor 0) (fC (.int 1))) (fBor 1) [.va (eX n ss), .va (.int v)] row0 = some (eS (some p), row0) := by simp [fBin, fBor, fC, e1, e]
    have e3 : fTst (fBin gNotN (fBin gAt (fBin gAt (fBor 0) (fC (.int 1))) (fBor 1)) (fC .none)) [.va (eX n ss), .va (.int v)] row0 = some (true, row0) := by
      rw [fTst, fBin, e2]; simp [fC, gNotN, isNoneD, eS]
    have e4 : fBin gAt (fBin gAt (fBin gAt (fBor 0) (fC (.int 1))) (fBor 1)) (fC (.int 1)) [.va (eX n ss), .va (.int v)] row0 = some (.tuple (p.2.map eB), row0) := by
      rw [fBin, e2]; simp [fC, eS, gAt, atI_z1]
    show b_law_branches [.va (eX n ss), .va (.int v)] row0 = _
    simp only [b_law_branches, sRet, fIf, e3, e4, bsOf]
/-! the quiet web -/
def mk3 (s : Int) (b : Br) : Mk := [.inl s, .inl b.1, .inl b.2.1]
def qst (a : Int) (sc : Sc) : List (Mk × Int) := ((bsOf sc).filter fun b => (ev a (spk sc) b).isNone).map fun b => (mk3 (spk sc) b, b.2.2)
def QW (ss : List Sc) (a : Int) : Web Mk := ss.map (qst a)
theorem stp_QW (ss : List Sc) (a v : Int) : stp (QW ss a) v = qst a (scAt ss v) := by
  unfold stp QW scAt
  rw [List.getElem?_map]
  cases ss[v.toNat]? <;> rfl
def QG (ss : List Sc) (a v : Int) : List Int := ((brs ss v).filter fun b => (evB ss a v b).isNone).map (·.2.2)
theorem G_QW : G (QW ss a) = QG ss a := by
  funext v
  unfold G
  rw [stp_QW, qst, List.map_map]; rfl
theorem wok_QW (k : Ok n ss) : WOk (QW ss a) where
  n := by have := k.m; unfold QW; rw [List.length_map]; omega
  k := fun st hst => by
    obtain ⟨sc, hs, rfl⟩ := List.mem_map.mp hst
    unfold qst
    rw [List.length_map]
    exact Nat.le_trans (List.length_filter_le _ _) (k.bsl hs)
  to := fun st hst p hp => by
    obtain ⟨sc, hs, rfl⟩ := List.mem_map.mp hst
    unfold qst at hp
    obtain ⟨b, hb, rfl⟩ := List.mem_map.mp hp
    have hb := (List.mem_filter.mp hb).1
    unfold QW
    rw [List.length_map]
    cases c : sc with
    | none => rw [c] at hb; cases hb
    | some q =>
      rw [c] at hs hb
      exact (k.sc q.1 q.2 hs).2.2 b hb |>.t
theorem web_D (ss : List Sc) (a : Int) : wD (QW ss a) = .list (ss.map fun sc => .list (((bsOf sc).filter fun b => (ev a (spk sc) b).isNone).map (eT (spk sc)))) := by
  unfold wD QW
  rw [List.map_map]
  congr 1
  refine List.map_congr_left fun sc _ => ?_
  simp only [Function.comp, stD, qst, List.map_map]
  rfl
abbrev tI (l : List Int) : D := .tuple (l.map .int)
theorem srt_ints (l : List Int) : gSortX [il l] = some (il (sortI l)) := by simp [gSortX, gSort, cOr, gSortI, intsD_map]
def J (ss : List Sc) (a v : Int) : List Int := sortI (Bf.ord (QG ss a) v)
theorem none_oE (o : Option E) : gIsN (oE o) .none = some (.bool o.isNone) := by cases o <;> simp [oE, eE, gIsN, isNoneD]
theorem notn_oE (o : Option E) : gNotN (oE o) .none = some (.bool o.isSome) := by cases o <;> simp [oE, eE, gNotN, isNoneD]
theorem joined_sets_eq (k : Ok n ss) : m_joined_sets [webD ss, .int a] = some (.list ((List.range ss.length).map fun (i : Nat) => tI (J ss a i))) := by
  refine mkF_rt (x := row0) rfl ?_
  show b_joined_sets [.va (webD ss), .va (.int a), .no, .no, .no, .no, .no] row0 = _
  have hm := k.m
  have W := wok_QW (a := a) k
  have lW : (QW ss a).length = ss.length := by unfold QW; rw [List.length_map]
  have c1 : sSet 2 (xVal (fOfX (xLc (fSeq (fVar 0)) (gtName 3) tYesF (fOfX (xLc (fSeq (fVar 3)) (gtTup 2 (gtCons (gtName 5) (gtCons (gtName 6) gtNil))) (fTst (fBin gIsN (fCall m_event_of (aCons (fVar 5) (aCons (fVar 1) aNil))) (fC .none))) (fTup (aCons (fVar 5) (aCons (fVar 6) aNil))) [5, 6])) [3]))) [.va (webD ss), .va (.int a), .no, .no, .no, .no, .no] row0 = some (.nx [.va (webD ss), .va (.int a), .va (wD (QW ss a)), .no, .no, .no, .no], row0) := by
    rw [web_D]
    refine sV (lc_eq (sqL (vV rfl)) (compL_map (fun sc => D.list (tk sc)) (fun sc => .list (((bsOf sc).filter fun b => (ev a (spk sc) b).isNone).map (eT (spk sc)))) ss fun sc hs => ⟨_, rfl, rfl, ?_⟩) (nob_n (by rw [List.length_map]; omega)))
    refine lc_eq (ds := tk sc) (sqL (vV rfl)) ?_ (nob_n (by rw [List.length_map]; have := k.bsl hs; have := List.length_filter_le (fun b => (ev a (spk sc) b).isNone) (bsOf sc); omega))
    rw [tk_eq]
    refine compL_gen (eT (spk sc)) (fun b => (ev a (spk sc) b).isNone) (eT (spk sc)) (bsOf sc) fun b hb => ⟨_, rfl, ?_, fun _ => fTup_ok (aC2 (vV rfl) (vV rfl)) two_ml⟩
    have q := fB (gd := gIsN) (fb := fC .none) (fK (m := m_event_of) (aC2 (vV (i := 5) rfl) (vV (i := 1) rfl)) (event_of_eq (spk sc) a b)) rfl (none_oE _) (env := [.va (webD ss), .va (.int a), .no, .va (.list (tk sc)), .no, .va (.tuple [.int (spk sc), .int b.1, .int b.2.1]), .va (.int b.2.2)]) (x := row0)
    simp only [fTst]
    erw [q]
  unfold b_joined_sets
  rw [sSeq_nx c1]
  refine sR (lc_eq (ds := rgD 0 ss.length) ?_ ?_ (nob_n (by rw [List.length_map, List.length_range]; omega)))
  · have q := fK (m := gLen) (r := .int (ss.length : Nat)) (aC1 (vB (i := 2) (env := [.va (webD ss), .va (.int a), .va (wD (QW ss a)), .no, .no, .no, .no]) (x := row0) rfl)) (by simp [gLen, wD, lW])
    simp only [fRg1, q, rg_ok (show ss.length ≤ 1000 by omega), if_true, Int.toNat_natCast]
  · rw [rgD_map]
    refine compL_map (fun (i : Nat) => D.int (i : Int)) (fun (i : Nat) => tI (J ss a i)) (List.range ss.length) fun i hi => ⟨_, rfl, rfl, ?_⟩
    have hi := List.mem_range.mp hi
    have e := coming_W W (v := (i : Int)) ⟨by omega, by rw [lW]; omega⟩
    rw [G_QW] at e
    exact tupOf_ok (fK (aC1 (fK (aC2 (vV rfl) (vV rfl)) e)) (srt_ints _))
end Lw
namespace Lw
open PySem RT Wb
variable {n : Int} {ss : List Sc} {a : Int}
/-! what is reached from some scenes -/
def Ux (m : Nat) : List Int := (List.range m).map fun (i : Nat) => (i : Int)
theorem Ux_lt (m : Nat) : (Ux m).Pairwise (· < ·) := by
  unfold Ux
  rw [List.pairwise_map]
  exact List.pairwise_lt_range.imp fun h => by omega
theorem Ux_mem {m : Nat} {x : Int} : x ∈ Ux m ↔ 0 ≤ x ∧ x < m := by
  unfold Ux
  rw [List.mem_map]
  constructor
  · rintro ⟨i, hi, rfl⟩; have := List.mem_range.mp hi; omega
  · rintro ⟨h0, h1⟩; exact ⟨x.toNat, List.mem_range.mpr (by omega), by omega⟩
def cl (ss : List Sc) (a : Int) (tos : List Int) : List Int := (Ux ss.length).filter fun x => tos.any fun t => decide (x ∈ Bf.ord (QG ss a) t)
theorem cl_lt (tos : List Int) : (cl ss a tos).Pairwise (· < ·) := (Ux_lt _).filter _
abbrev Rg (ss : List Sc) (x : Int) : Prop := 0 ≤ x ∧ x < (ss.length : Int)
theorem qweb (k : Ok n ss) : Bf.Web ss.length (QG ss a) := by
  have := web_ok (wok_QW (a := a) k)
  rw [G_QW, show (QW ss a).length = ss.length from by unfold QW; rw [List.length_map]] at this
  exact this
theorem cl_mem (k : Ok n ss) {tos : List Int} (ht : ∀ t ∈ tos, Rg ss t) (x : Int) : x ∈ cl ss a tos ↔ ∃ t ∈ tos, x ∈ Bf.ord (QG ss a) t := by
  unfold cl
  rw [List.mem_filter, List.any_eq_true]
  constructor
  · rintro ⟨_, t, h1, h2⟩; exact ⟨t, h1, of_decide_eq_true h2⟩
  · rintro ⟨t, h1, h2⟩; exact ⟨Ux_mem.mpr (Bf.ord_in (qweb k) (ht t h1) x h2), t, h1, decide_eq_true h2⟩
theorem J_mem {v x : Int} : x ∈ J ss a v ↔ x ∈ Bf.ord (QG ss a) v := (sortI_perm _).mem_iff
theorem J_lt (v : Int) : (J ss a v).Pairwise (· < ·) := le_nd_lt (sortI_sorted _) ((sortI_perm _).nodup_iff.mpr Bf.ord_nd)
theorem J_len (k : Ok n ss) {v : Int} (hv : Rg ss v) : (J ss a v).length ≤ ss.length := by
  unfold J; rw [(sortI_perm _).length_eq]; exact Bf.ord_len (qweb k) hv
theorem J_cl (k : Ok n ss) {v : Int} (hv : Rg ss v) : J ss a v = cl ss a [v] :=
  lt_uniq (J_lt v) (cl_lt _) fun x => by rw [J_mem, cl_mem k (fun t h => by rw [List.mem_singleton] at h; exact h ▸ hv)]; simp
theorem setI_cl (k : Ok n ss) {tos : List Int} (ht : ∀ t ∈ tos, Rg ss t) : setI (tos.flatMap (J ss a)) = cl ss a tos :=
  lt_uniq (setI_lt _) (cl_lt _) fun x => by
    rw [setI_mem, cl_mem k ht, List.mem_flatMap]
    exact ⟨fun ⟨t, h1, h2⟩ => ⟨t, h1, J_mem.mp h2⟩, fun ⟨t, h1, h2⟩ => ⟨t, h1, J_mem.mpr h2⟩⟩
/-! events_near -/
theorem lc2_eq {f f1 : FA} {gt gt1 : FGt} {t t1 : FT} {fe : FE} {vs vs1 : List Nat} {env : FEn} {x x1 x2 : FRow} {ds rs : List D} (h1 : f env x = some (ds, x1)) (h2 : compL2 gt t f1 gt1 t1 fe vs1 (wipeE env vs) ds x1 = some (rs, x2)) (h3 : rs.length < maxLen) : fOfX (xLc2 f gt t f1 gt1 t1 fe vs vs1) env x = some (.list rs, x2) := by
  simp only [fOfX, xLc2, h1, h2, if_pos h3, OwD.d]
/-! law_joined -/
theorem whL_run {t : FT} {b : FS} {x : FRow} (R : Nat → FEn → Prop) (S : FEn → Prop) (N : Nat) (hN : ∀ k env, R k env → k ≤ N) (h : ∀ k env, R k env → (t env x = some (true, x) ∧ ∃ e2, b env x = some (.nx e2, x) ∧ R (k + 1) e2) ∨ (t env x = some (false, x) ∧ S env)) : ∀ (fuel k : Nat) (env : FEn), R k env → N + 1 - k < fuel → ∃ e2, whL t b fuel env x = some (.nx e2, x) ∧ S e2
  | 0, _, _, _, hf => by omega
  | fuel + 1, k, env, r, hf => by
    have hk := hN k env r
    rcases h k env r with ⟨h1, e2, h2, h3⟩ | ⟨h1, s⟩
    · obtain ⟨e3, h4, h5⟩ := whL_run R S N hN h fuel (k + 1) e2 h3 (by omega)
      refine ⟨e3, ?_, h5⟩
      simp only [whL, h1, h2]
      exact h4
    · exact ⟨env, by simp [whL, h1], s⟩
theorem dS_keys (l : List Int) : (dS l).map (·.1) = l.map .int := by simp [dS]
def Ac (ss : List Sc) (acc : List Int) : Prop := acc.Nodup ∧ ∀ x ∈ acc, Rg ss x
theorem Ac.len {acc : List Int} (h : Ac ss acc) : acc.length ≤ ss.length := Bf.pig _ _ h.1 fun x hx => h.2 x hx
theorem Ac.adds {acc ts : List Int} (h : Ac ss acc) (ht : ∀ t ∈ ts, Rg ss t) : Ac ss (Bf.adds acc ts) := ⟨Bf.adds_nd _ _ h.1, fun x hx => by
  rcases (Bf.adds_mem x _ _).mp hx with q | q
  · exact h.2 x q
  · exact ht x q⟩
theorem lv_mem {G : Int → List Int} (x : Int) : ∀ (us O : List Int), x ∈ Bf.lv G O us ↔ x ∈ O ∨ ∃ u ∈ us, x ∈ G u
  | [], O => by simp [Bf.lv]
  | u :: us, O => by rw [Bf.lv, lv_mem x us, Bf.adds_mem]; simp [or_assoc]
theorem lv_pre {G : Int → List Int} : ∀ (us O : List Int), O <+: Bf.lv G O us
  | [], O => List.prefix_refl O
  | u :: us, O => (Bf.adds_pre (G u) O).trans (lv_pre us _)
theorem lv_nd {G : Int → List Int} : ∀ (us O : List Int), O.Nodup → (Bf.lv G O us).Nodup
  | [], O, h => h
  | u :: us, O, h => lv_nd us _ (Bf.adds_nd _ _ h)
def LJ (n : Int) (ss : List Sc) (a : Int) (tos acc last : List Int) (c : Int) (L : Nat) (p q : FSl) : FEn := [.va (eX n ss), .va (il tos), .va (.int a), .ow (.dk (dS acc)), .va (il last), .va (.int c), .ow (.lst ((acc.drop L).map .int)), p, q, .no]
def ljB : FS := sIf (tAndF (fTst (fBin gIsN (fCall m_law_event (aCons (fVar 0) (aCons (fVar 7) (aCons (fVar 8) (aCons (fVar 2) aNil))))) (fC .none))) (fTst (fBin gNotInA (fBin gAt (fBor 8) (fC (.int 2))) (fBor 3)))) (sSeq (sDPut 3 (fBin gAt (fBor 8) (fC (.int 2))) (fC (.bool true))) (sApp 6 (fBin gAt (fBor 8) (fC (.int 2))))) sNil
theorem ljB_eq {u : Int} (hu : Rg ss u) {b : Br} (hb : b ∈ brs ss u) {tos acc last : List Int} (hO : acc.length ≤ 100) {L : Nat} (hL : L ≤ acc.length) (c : Int) :
    ljB (LJ n ss a tos acc last c L (.va (.int u)) (.va (eB b))) row0 = some (.nx (LJ n ss a tos (Bf.adds acc (if (evB ss a u b).isNone then [b.2.2] else [])) last c L (.va (.int u)) (.va (eB b))), row0) := by
  have hl : (dS acc).length < maxLen := by simp only [dS, List.length_map, maxLen]; omega
  have hl2 : ((acc.drop L).map D.int).length < maxLen := by simp only [List.length_map, List.length_drop, maxLen]; omega
  have hp := dS_put b.2.2 acc
  have ht := eB_2 b
  have q := fB (gd := gIsN) (fb := fC .none) (fK (m := m_law_event) (aCons_eq (vV (i := 0) rfl) (aC3 (vV (i := 7) rfl) (vV (i := 8) rfl) (vV (i := 2) rfl))) (law_event_eq (n := n) (a := a) hu.1 hu.2 hb)) rfl (none_oE _) (env := LJ n ss a tos acc last c L (.va (.int u)) (.va (eB b))) (x := row0)
  have q1 : fTst (fBin gIsN (fCall m_law_event (aCons (fVar 0) (aCons (fVar 7) (aCons (fVar 8) (aCons (fVar 2) aNil))))) (fC .none)) (LJ n ss a tos acc last c L (.va (.int u)) (.va (eB b))) row0 = some ((evB ss a u b).isNone, row0) := by simp only [fTst, q]
  cases e : (evB ss a u b).isNone with
  | false =>
    rw [e] at q1
    simp only [ljB, sIf, tAndF, q1, sNil]
    simp [Bf.adds_nil]
  | true =>
    rw [e] at q1
    simp only [if_true]
    by_cases h : b.2.2 ∈ acc
    · have e : Bf.adds acc [b.2.2] = acc := by rw [Bf.adds_cons, Bf.adds_nil, if_pos h]
      rw [e]
      simp only [ljB, sIf, tAndF, q1]
      simp [fTst, fBin, fBor, fC, LJ, OwD.d, ht, dS_notin, h, sNil]
    · have e : Bf.adds acc [b.2.2] = acc ++ [b.2.2] := by rw [Bf.adds_cons, Bf.adds_nil, if_neg h]
      rw [e] at hp ⊢
      have c1 : fTst (fBin gNotInA (fBin gAt (fBor 8) (fC (.int 2))) (fBor 3)) (LJ n ss a tos acc last c L (.va (.int u)) (.va (eB b))) row0 = some (true, row0) := by
        simp [fTst, fBin, fBor, fC, LJ, OwD.d, ht, dS_notin, h]
      have c2 : sDPut 3 (fBin gAt (fBor 8) (fC (.int 2))) (fC (.bool true)) (LJ n ss a tos acc last c L (.va (.int u)) (.va (eB b))) row0 = some (.nx [.va (eX n ss), .va (il tos), .va (.int a), .ow (.dk (dS (acc ++ [b.2.2]))), .va (il last), .va (.int c), .ow (.lst ((acc.drop L).map .int)), .va (.int u), .va (eB b), .no], row0) := by
        simp [sDPut, fBin, fBor, fC, LJ, ht, dKey, hl, hp]
      have c3 : sApp 6 (fBin gAt (fBor 8) (fC (.int 2))) [.va (eX n ss), .va (il tos), .va (.int a), .ow (.dk (dS (acc ++ [b.2.2]))), .va (il last), .va (.int c), .ow (.lst ((acc.drop L).map .int)), .va (.int u), .va (eB b), .no] row0 = some (.nx (LJ n ss a tos (acc ++ [b.2.2]) last c L (.va (.int u)) (.va (eB b))), row0) := by
        simp only [sApp, fBin, fBor, fC, List.getElem?_cons_succ, List.getElem?_cons_zero, ht, if_pos hl2]
        simp [LJ, List.drop_append_of_le_length hL]
      simp only [ljB, sIf, tAndF, q1, c1, sSeq, c2, c3]
theorem ljI {k : Ok n ss} {u : Int} (hu : Rg ss u) {tos last : List Int} {L : Nat} (c : Int) : ∀ (bs : List Br) (acc : List Int) (q : FSl), (∀ b ∈ bs, b ∈ brs ss u) → Ac ss acc → L ≤ acc.length →
    ∃ q', forL (gtName 8) ljB (bs.map eB) (LJ n ss a tos acc last c L (.va (.int u)) q) row0 = some (.nx (LJ n ss a tos (Bf.adds acc ((bs.filter fun b => (evB ss a u b).isNone).map (·.2.2))) last c L (.va (.int u)) q'), row0)
  | [], acc, q, _, _, _ => ⟨q, rfl⟩
  | b :: bs, acc, q, hb, hA, hL => by
    have hb0 := hb b List.mem_cons_self
    have hr := brs_t k hu b hb0
    have hA' : Ac ss (Bf.adds acc (if (evB ss a u b).isNone then [b.2.2] else [])) := hA.adds fun t ht => by
      split at ht
      · rw [List.mem_singleton] at ht; exact ht ▸ hr
      · cases ht
    have hp := (Bf.adds_pre (if (evB ss a u b).isNone then [b.2.2] else []) acc).length_le
    obtain ⟨q', e⟩ := ljI (k := k) hu (tos := tos) (last := last) (L := L) c bs _ (.va (eB b)) (fun x hx => hb x (List.mem_cons_of_mem _ hx)) hA' (by omega)
    refine ⟨q', ?_⟩
    have c1 := ljB_eq (n := n) (a := a) hu hb0 (tos := tos) (last := last) (acc := acc) (by have := hA.len; have := k.m; omega) hL c
    rw [List.map_cons, forL]
    simp only [gtName]
    rw [show (LJ n ss a tos acc last c L (.va (.int u)) q).set 8 (.va (eB b)) = LJ n ss a tos acc last c L (.va (.int u)) (.va (eB b)) from rfl]
    simp only [c1]
    rw [e]
    have z : Bf.adds (Bf.adds acc (if (evB ss a u b).isNone then [b.2.2] else [])) ((bs.filter fun b => (evB ss a u b).isNone).map (·.2.2)) = Bf.adds acc (((b :: bs).filter fun b => (evB ss a u b).isNone).map (·.2.2)) := by
      cases h : (evB ss a u b).isNone with
      | true => rw [List.filter_cons_of_pos (by exact h)]; rfl
      | false => rw [List.filter_cons_of_neg (by simp only [h]; exact Bool.false_ne_true)]; rfl
    rw [z]
end Lw
namespace Lw
open PySem RT Wb
variable {n : Int} {ss : List Sc} {a : Int}
def ljM : FS := sFor (fSeq (fCall m_law_branches (aCons (fVar 0) (aCons (fVar 7) aNil)))) (gtName 8) ljB
theorem QG_in (k : Ok n ss) {u : Int} (hu : Rg ss u) : ∀ t ∈ QG ss a u, Rg ss t := (qweb k).to u hu
theorem ljM_eq (k : Ok n ss) {tos last : List Int} {L : Nat} (c : Int) : ∀ (us acc : List Int) (p q : FSl), (∀ u ∈ us, Rg ss u) → Ac ss acc → L ≤ acc.length →
    ∃ p' q', forL (gtName 7) ljM (us.map .int) (LJ n ss a tos acc last c L p q) row0 = some (.nx (LJ n ss a tos (Bf.lv (QG ss a) acc us) last c L p' q'), row0)
  | [], acc, p, q, _, _, _ => ⟨p, q, rfl⟩
  | u :: us, acc, p, q, hu, hA, hL => by
    have hu0 := hu u List.mem_cons_self
    obtain ⟨q1, e1⟩ := ljI (k := k) (a := a) hu0 (tos := tos) (last := last) (L := L) c (brs ss u) acc q (fun b hb => hb) hA hL
    have hp := (Bf.adds_pre (QG ss a u) acc).length_le
    obtain ⟨p', q', e⟩ := ljM_eq k (tos := tos) (last := last) (L := L) c us (Bf.adds acc (QG ss a u)) (.va (.int u)) q1 (fun x hx => hu x (List.mem_cons_of_mem _ hx)) (hA.adds (QG_in k hu0)) (by omega)
    refine ⟨p', q', ?_⟩
    have c1 : fSeq (fCall m_law_branches (aCons (fVar 0) (aCons (fVar 7) aNil))) (LJ n ss a tos acc last c L (.va (.int u)) q) row0 = some ((brs ss u).map eB, row0) := sqT (fK (aC2 (vV rfl) (vV rfl)) (law_branches_eq hu0.1 hu0.2))
    rw [List.map_cons, forL]
    simp only [gtName]
    rw [show (LJ n ss a tos acc last c L p q).set 7 (.va (.int u)) = LJ n ss a tos acc last c L (.va (.int u)) q from rfl]
    simp only [ljM, sFor, c1]
    rw [e1]
    exact e
structure LI (ss : List Sc) (a : Int) (tos : List Int) (c : Nat) (acc last : List Int) : Prop where
  ac : Ac ss acc
  st : ∀ t ∈ tos, t ∈ acc
  la : ∀ x ∈ last, x ∈ acc
  cl : ∀ x ∈ acc, x ∉ last → ∀ t ∈ QG ss a x, t ∈ acc
  re : ∀ x ∈ acc, ∃ u ∈ tos, x ∈ Bf.ord (QG ss a) u
  gr : last = [] ∨ c + 1 ≤ acc.length
  kk : c ≤ 8
theorem LI.step (k : Ok n ss) {tos : List Int} (ht : ∀ t ∈ tos, Rg ss t) {c : Nat} {acc last : List Int} (I : LI ss a tos c acc last) (h : last ≠ []) : LI ss a tos (c + 1) (Bf.lv (QG ss a) acc last) ((Bf.lv (QG ss a) acc last).drop acc.length) := by
  obtain ⟨r, er⟩ := lv_pre (G := QG ss a) last acc
  have hd : (Bf.lv (QG ss a) acc last).drop acc.length = r := by rw [← er]; simp
  have hA : Ac ss (Bf.lv (QG ss a) acc last) := ⟨lv_nd _ _ I.ac.1, fun x hx => by
    rcases (lv_mem x _ _).mp hx with q | ⟨u, h1, h2⟩
    · exact I.ac.2 x q
    · exact QG_in k (I.ac.2 u (I.la u h1)) x h2⟩
  have hm := k.m
  have hg : c + 1 ≤ acc.length := I.gr.resolve_left h
  have hl := I.ac.len
  refine ⟨hA, fun t h => (lv_mem t _ _).mpr (.inl (I.st t h)), fun x hx => List.mem_of_mem_drop hx, fun x hx hn t ht => ?_, fun x hx => ?_, ?_, by omega⟩
  · rw [hd] at hn
    have hx : x ∈ acc := by
      rw [← er] at hx
      exact (List.mem_append.mp hx).resolve_right hn
    rw [lv_mem]
    by_cases q : x ∈ last
    · exact .inr ⟨x, q, ht⟩
    · exact .inl (I.cl x hx q t ht)
  · rcases (lv_mem x _ _).mp hx with q | ⟨u, h1, h2⟩
    · exact I.re x q
    · obtain ⟨w, h3, h4⟩ := I.re u (I.la u h1)
      exact ⟨w, h3, Bf.ord_go (qweb k) (ht w h3) h4 h2⟩
  · rw [hd]
    cases r with
    | nil => exact .inl rfl
    | cons x r => right; rw [← er, List.length_append, List.length_cons]; omega
theorem LI.fin (k : Ok n ss) {tos : List Int} (ht : ∀ t ∈ tos, Rg ss t) {c : Nat} {acc : List Int} (I : LI ss a tos c acc []) : sortI acc = Lw.cl ss a tos := by
  refine lt_uniq (le_nd_lt (sortI_sorted _) ((sortI_perm _).nodup_iff.mpr I.ac.1)) (cl_lt _) fun x => ?_
  rw [(sortI_perm _).mem_iff, cl_mem k ht]
  exact ⟨I.re x, fun ⟨u, h1, h2⟩ => Bf.ord_sub (S := fun x => x ∈ acc) (I.st u h1) (fun y hy t ht => I.cl y hy (by simp) t ht) x h2⟩
theorem pairs_ints : ∀ tos : List Int, pairsK (tos.map fun t => .tuple [.int t, .bool true]) = some (tos.map fun t => (.inl t, .int t, .bool true))
  | [] => rfl
  | t :: tos => by rw [List.map_cons, pairsK, pairs_ints tos]; rfl
theorem put_ints : ∀ (tos l : List Int), (tos.map fun t => ((.inl t, .int t, .bool true) : L2.Key × D × D)).foldl (fun acc p => putD dKey acc p.2.1 p.1 p.2.2) (dS l) = dS (Bf.adds l tos)
  | [], l => rfl
  | t :: tos, l => by
    rw [List.map_cons, List.foldl_cons]
    simp only
    rw [dS_put, put_ints tos]
    rfl
theorem law_joined_eq (k : Ok n ss) {tos : List Int} (ht : ∀ t ∈ tos, Rg ss t) (hl : tos.length ≤ 100) : m_law_joined [eX n ss, il tos, .int a] = some (tI (cl ss a tos)) := by
  refine mkF_rt (x := row0) rfl ?_
  show b_law_joined [.va (eX n ss), .va (il tos), .va (.int a), .no, .no, .no, .no, .no, .no, .no] row0 = _
  have hm := k.m
  have c0 : fOfX (xLc (fSeq (fVar 1)) (gtName 9) tYesF (fTup (aCons (fVar 9) (aCons (fC (.bool true)) aNil))) [9]) [.va (eX n ss), .va (il tos), .va (.int a), .no, .no, .no, .no, .no, .no, .no] row0 = some (.list (tos.map fun t => .tuple [.int t, .bool true]), row0) :=
    lc_eq (sqL (vV rfl)) (compL_map D.int (fun t => .tuple [.int t, .bool true]) tos fun t _ => ⟨_, rfl, rfl, fTup_ok (aC2 (vV rfl) rfl) two_ml⟩) (nob_n (by rw [List.length_map]; omega))
  have c1 : sPars [3, 4, 5] (xsCons (xDictP (fOfX (xLc (fSeq (fVar 1)) (gtName 9) tYesF (fTup (aCons (fVar 9) (aCons (fC (.bool true)) aNil))) [9]))) (xsCons (xVal (fCall gListOf (aCons (fBor 1) aNil))) (xsCons (xVal (fC (.int 0))) xsNil))) [.va (eX n ss), .va (il tos), .va (.int a), .no, .no, .no, .no, .no, .no, .no] row0 = some (.nx [.va (eX n ss), .va (il tos), .va (.int a), .ow (.dk (dS (Bf.adds [] tos))), .va (il tos), .va (.int 0), .no, .no, .no, .no], row0) := by
    have z := put_ints tos []
    rw [show dS [] = [] from rfl] at z
    have d1 : xDictP (fOfX (xLc (fSeq (fVar 1)) (gtName 9) tYesF (fTup (aCons (fVar 9) (aCons (fC (.bool true)) aNil))) [9])) [.va (eX n ss), .va (il tos), .va (.int a), .no, .no, .no, .no, .no, .no, .no] row0 = some (.ow (.dk (dS (Bf.adds [] tos))), row0) := by
      simp only [xDictP, c0, pairs_ints, z]
    have d2 : xVal (fCall gListOf (aCons (fBor 1) aNil)) [.va (eX n ss), .va (il tos), .va (.int a), .no, .no, .no, .no, .no, .no, .no] row0 = some (.va (il tos), row0) := rfl
    have d3 : xVal (fC (.int 0)) [.va (eX n ss), .va (il tos), .va (.int a), .no, .no, .no, .no, .no, .no, .no] row0 = some (.va (.int 0), row0) := rfl
    simp only [sPars, xsCons, d1, d2, d3, xsNil]
    rfl
  obtain ⟨e2, h1, acc, c, s6, p, q, h2, I⟩ := whL_run (x := row0) (t := tAndF (fTst (fBin gNe (fBor 4) (fLst aNil))) (fTst (fBin gLtX (fBor 5) (fC (.int 10))))) (b := sSeq (sPars [5, 6] (xsCons (xVal (fBin gAdd (fBor 5) (fC (.int 1)))) (xsCons (xLst aNil) xsNil)))
    (sSeq (sFor (fSeq (fVar 4)) (gtName 7) ljM)
    (sFrz 6 (sSet 4 (xVal (fVar 6))))))
    (fun c env => ∃ acc last s6 p q, env = [.va (eX n ss), .va (il tos), .va (.int a), .ow (.dk (dS acc)), .va (il last), .va (.int c), s6, p, q, .no] ∧ LI ss a tos c acc last)
    (fun env => ∃ acc c s6 p q, env = [.va (eX n ss), .va (il tos), .va (.int a), .ow (.dk (dS acc)), .va (il []), .va (.int (c : Nat)), s6, p, q, .no] ∧ LI ss a tos c acc []) 8 (by
      rintro c _ ⟨acc, last, s6, p, q, rfl, I⟩; exact I.kk) (by
      rintro c _ ⟨acc, last, s6, p, q, rfl, I⟩
      have hml : (0 : Nat) ≤ maxLen := Nat.zero_le _
      have t1 : fTst (fBin gNe (fBor 4) (fLst aNil)) [.va (eX n ss), .va (il tos), .va (.int a), .ow (.dk (dS acc)), .va (il last), .va (.int c), s6, p, q, .no] row0 = some (!last.isEmpty, row0) := by
        have := ne_nil last
        simp [fTst, fBin, fBor, fLst, aNil, hml, this]
      cases last with
      | nil => right; refine ⟨?_, acc, c, s6, p, q, rfl, I⟩; simp only [tAndF, t1]; rfl
      | cons z last' =>
        generalize hla : z :: last' = last at *
        have hne : last ≠ [] := by rw [← hla]; simp
        have hem : last.isEmpty = false := by rw [← hla]; rfl
        left
        have hlt : (c : Int) < 10 := by have := I.kk; omega
        constructor
        · simp only [tAndF, t1, hem]
          simp [fTst, fBin, fBor, fC, gLtX, gLt, gOr, gI, hlt]
        · have c2 : sPars [5, 6] (xsCons (xVal (fBin gAdd (fBor 5) (fC (.int 1)))) (xsCons (xLst aNil) xsNil)) [.va (eX n ss), .va (il tos), .va (.int a), .ow (.dk (dS acc)), .va (il last), .va (.int c), s6, p, q, .no] row0 = some (.nx (LJ n ss a tos acc last (c + 1 : Nat) acc.length p q), row0) := by
            simp [sPars, xsCons, xsNil, xVal, xLst, aNil, fBin, fBor, fC, gAdd, gOr, gI, hml, setsE, LJ]
          obtain ⟨p', q', e⟩ := ljM_eq k (a := a) (tos := tos) (last := last) (L := acc.length) (c + 1 : Nat) last acc p q (fun u hu => I.ac.2 u (I.la u hu)) I.ac (Nat.le_refl _)
          have c3 : fSeq (fVar 4) (LJ n ss a tos acc last (c + 1 : Nat) acc.length p q) row0 = some (last.map .int, row0) := sqL (vV rfl)
          refine ⟨_, ?_, _, _, .va (il ((Bf.lv (QG ss a) acc last).drop acc.length)), p', q', rfl, I.step k ht hne⟩
          · rw [sSeq_nx c2, sSeq_nx (for_eq c3 e)]
            simp [sFrz, eFrz, sSet, xVal, fVar, LJ, OwD.d]) 1000 0 [.va (eX n ss), .va (il tos), .va (.int a), .ow (.dk (dS (Bf.adds [] tos))), .va (il tos), .va (.int 0), .no, .no, .no, .no] ⟨Bf.adds [] tos, tos, .no, .no, .no, rfl, by
      have hA : Ac ss (Bf.adds [] tos) := (show Ac ss [] from ⟨by simp, by simp⟩).adds ht
      have hmem : ∀ x, x ∈ Bf.adds [] tos ↔ x ∈ tos := fun x => by rw [Bf.adds_mem]; simp
      refine ⟨hA, fun t h => (hmem t).mpr h, fun t h => (hmem t).mpr h, fun x h1 h2 => absurd ((hmem x).mp h1) h2, fun x h => ⟨x, (hmem x).mp h, Bf.ord_self⟩, ?_, by omega⟩
      cases tos with
      | nil => exact .inl rfl
      | cons t r => right; have := List.length_pos_of_mem ((hmem t).mpr List.mem_cons_self); omega⟩ (by omega)
  subst h2
  unfold b_law_joined
  rw [sSeq_nx c1]
  refine (sSeq_nx h1).trans ?_
  have q1 : fCall gListOf (aCons (fBor 3) aNil) [.va (eX n ss), .va (il tos), .va (.int a), .ow (.dk (dS acc)), .va (il []), .va (.int (c : Nat)), s6, p, q, .no] row0 = some (il acc, row0) := by
    refine fK (aC1 (vO rfl)) ?_
    simp only [OwD.d, gListOf, dS_keys]
  have q2 := tupOf_ok (fK (aC1 q1) (srt_ints acc))
  rw [I.fin k ht] at q2
  exact sR q2
end Lw
namespace Lw
open PySem RT Wb
variable {n : Int} {ss : List Sc} {a : Int}
/-! events: keys, order, sorting -/
def mE (e : E) : Mk := [.inr (kS e.1), .inl e.2.1, .inl e.2.2]
theorem kS_inj {x y : Bool} (h : kS x = kS y) : x = y := by
  have : kS true ≠ kS false := by decide +kernel
  cases x <;> cases y <;> first | rfl | exact absurd h this | exact absurd h.symm this
theorem mE_inj {e f : E} (h : mE e = mE f) : e = f := by
  obtain ⟨k, o, w⟩ := e
  obtain ⟨k', o', w'⟩ := f
  simp only [mE, List.cons.injEq, Sum.inr.injEq, Sum.inl.injEq, and_true] at h
  obtain ⟨h1, h2, h3⟩ := h
  rw [kS_inj h1, h2, h3]
theorem key_eE (e : E) : dKeyT (eE e) = some (mE e) := dKeyT_m (mE e)
def EOk (e : E) : Prop := (0 ≤ e.2.1 ∧ e.2.1 ≤ 3) ∧ (0 ≤ e.2.2 ∧ e.2.2 ≤ 5)
def cE (e : E) : Int := (if e.1 then 100 else 0) + e.2.1 * 8 + e.2.2
theorem cE_inj {e f : E} (h : EOk e) (h' : EOk f) (c : cE e = cE f) : e = f := by
  obtain ⟨k, o, w⟩ := e
  obtain ⟨k', o', w'⟩ := f
  simp only [EOk] at h h'
  simp only [cE] at c
  have : k = k' := by cases k <;> cases k' <;> simp at c ⊢ <;> omega
  subst this
  have : o = o' := by cases k <;> simp at c <;> omega
  subst this
  have : w = w' := by cases k <;> simp at c <;> omega
  subst this; rfl
theorem leD_c {e f : E} (h : EOk e) (h' : EOk f) : leD (eE e) (eE f) = decide (cE e ≤ cE f) := by
  obtain ⟨k, o, w⟩ := e
  obtain ⟨k', o', w'⟩ := f
  simp only [EOk] at h h'
  have e1 : (Str.ofString "hear").cps = #[104, 101, 97, 114] := by decide +kernel
  have e2 : (Str.ofString "say").cps = #[115, 97, 121] := by decide +kernel
  have g1 : ¬ ([104, 101, 97, 114] : List Nat) < [104, 101, 97, 114] := by decide
  have g2 : ¬ ([115, 97, 121] : List Nat) < [115, 97, 121] := by decide
  have g3 : ([104, 101, 97, 114] : List Nat) < [115, 97, 121] := by decide
  have g4 : ¬ ([115, 97, 121] : List Nat) < [104, 101, 97, 114] := by decide
  have f1 : ¬ (Str.ofString "hear").cps < (Str.ofString "hear").cps := by rw [e1]; exact g1
  have f2 : ¬ (Str.ofString "say").cps < (Str.ofString "say").cps := by rw [e2]; exact g2
  have f3 : (Str.ofString "hear").cps < (Str.ofString "say").cps := by rw [e1, e2]; exact g3
  have f4 : (Str.ofString "hear").cps ≤ (Str.ofString "say").cps := by rw [e1, e2]; exact g4
  have f5 : ¬ (Str.ofString "say").cps ≤ (Str.ofString "hear").cps := by rw [e1, e2]; exact fun h => h g3
  unfold leD
  simp only [PySem.W.dataLt, eE, D.py, pyAll, PySem.W.keyToks, PySem.W.keyToksAll, List.cons_append, List.nil_append]
  rw [Bool.eq_iff_iff]
  cases k <;> cases k' <;> simp [PyProof.Rows.lexLt, PyProof.Rows.itemLt, cE, kS]
  · simp only [f1, false_or]; omega
  · simp only [f3, f4, true_or, and_self, true_iff]; omega
  · simp only [f5, false_and, false_iff]; omega
  · simp only [f2, false_or]; omega
theorem eE_alike (e f : E) : PySem.W.alike (eE e).py (eE f).py = true := m_alike (a := mE e) (b := mE f) rfl
theorem kS_ok (b : Bool) : PyData.strOk (kS b) = true := by cases b <;> decide +kernel
theorem pt_eE (e : E) : Pt 1 (eE e) := Or.inr ⟨_, Or.inl rfl, by simp, by
  intro d hd
  simp only [List.mem_cons, List.not_mem_nil, or_false] at hd
  rcases hd with rfl | rfl | rfl
  · exact Or.inr (Or.inr (Or.inl ⟨_, rfl, kS_ok _⟩))
  · exact P0i _
  · exact P0i _⟩
def srtE (l : List E) : List E := l.mergeSort fun p q => decide (cE p ≤ cE q)
theorem srtE_perm (l : List E) : (srtE l).Perm l := List.mergeSort_perm _ _
theorem srtE_asc {l : List E} (he : ∀ e ∈ l, EOk e) (nd : l.Nodup) : (srtE l).Pairwise fun p q => cE p < cE q := by
  have s1 := List.pairwise_mergeSort (le := fun p q : E => decide (cE p ≤ cE q)) (by intro a b c; simp only [decide_eq_true_eq]; omega) (by intro a b; simp only [Bool.or_eq_true, decide_eq_true_eq]; omega) l
  have n1 : (srtE l).Nodup := (srtE_perm l).nodup_iff.mpr nd
  refine (s1.and n1).imp_of_mem fun {p q} hp hq h => ?_
  have hp := he p ((srtE_perm l).mem_iff.mp hp)
  have hq := he q ((srtE_perm l).mem_iff.mp hq)
  have le : cE p ≤ cE q := by simpa using h.1
  have ne : cE p ≠ cE q := fun z => h.2 (cE_inj hp hq z)
  omega
theorem sortD_E {l : List E} (he : ∀ e ∈ l, EOk e) (hl : l.length ≤ 100) : gSortD [.list (l.map eE)] = some (.list ((srtE l).map eE)) := by
  have h1 : shapedD (.list (l.map eE)) = true := (pt_list (k := 1) (by rw [List.length_map]; omega) fun d hd => by
    obtain ⟨p, hp, rfl⟩ := List.mem_map.mp hd
    exact pt_eE p).sh (by omega)
  have h2 : sortableB (l.map eE) = true := by
    unfold sortableB
    rw [List.all_eq_true]
    intro d hd
    obtain ⟨p, hp, rfl⟩ := List.mem_map.mp hd
    rfl
  have h3 : alikeB (l.map eE) = true := alikeB_of fun p hp q hq => eE_alike p q
  have h4 : (l.map eE).length ≤ maxLen := ml _ (by rw [List.length_map]; omega)
  simp only [gSortD, h1, h2, h3, Bool.and_self, Bool.true_and, decide_eq_true_eq, if_pos h4]
  congr 2
  exact (List.map_mergeSort (r := fun p q => decide (cE p ≤ cE q)) (s := leD) (f := eE) (l := l) fun p hp q hq => (leD_c (he p hp) (he q hq)).symm).symm
theorem sortX_E {l : List E} (he : ∀ e ∈ l, EOk e) (hl : l.length ≤ 100) : gSortX [.list (l.map eE)] = some (.list ((srtE l).map eE)) := by
  have hd := sortD_E he hl
  cases hl0 : l with
  | nil => simp [gSortX, gSort, cOr, gSortI, intsD, sortI, srtE]
  | cons a l' =>
    rw [← hl0]
    have hn : gSort [.list (l.map eE)] = none := by
      rw [hl0, List.map_cons]
      exact sort_none rfl
    simp only [gSortX, cOr, hn]
    unfold gSort1
    simp only
    by_cases c1 : (l.map eE).length ≤ 1
    · rw [if_pos c1]
      have : l' = [] := by
        rw [hl0] at c1
        simpa using c1
      subst this
      rw [hl0]
      simp [srtE]
    · rw [if_neg c1]; exact hd
theorem sortY_E {l : List E} {f : E → D} (he : ∀ e ∈ l, EOk e) (hl : l.length ≤ 100) : gSortY [.dictT (l.map fun e => (eE e, f e))] = some (.list ((srtE l).map eE)) := by
  have h0 : ∀ kvs, gSortX [.dictT kvs] = none := fun _ => rfl
  simp only [gSortY, cOr, h0, gSortK, keysD, List.map_map]
  exact sortD_E he hl
/-! steps met: events and the scenes behind them -/
abbrev AL := List (E × List Int)
def ups : AL → E → Int → AL
  | [], e, t => [(e, [t])]
  | p :: A, e, t => if p.1 = e then (p.1, p.2 ++ [t]) :: A else p :: ups A e t
def look : AL → E → List Int
  | [], _ => []
  | p :: A, e => if p.1 = e then p.2 else look A e
theorem ups_key (x : E) : ∀ (A : AL) (e : E) (t : Int), x ∈ (ups A e t).map (·.1) ↔ x ∈ A.map (·.1) ∨ x = e
  | [], e, t => by simp [ups]
  | p :: A, e, t => by
    unfold ups
    split
    · rename_i h
      simp only [List.map_cons, List.mem_cons]
      constructor
      · intro q; exact .inl q
      · rintro (q | q)
        · exact q
        · exact .inl (q.trans h.symm)
    · simp only [List.map_cons, List.mem_cons, ups_key x A, or_assoc]
theorem ups_nd : ∀ (A : AL) (e : E) (t : Int), (A.map (·.1)).Nodup → ((ups A e t).map (·.1)).Nodup
  | [], e, t, h => by simp [ups]
  | p :: A, e, t, h => by
    unfold ups
    rw [List.map_cons, List.nodup_cons] at h
    split
    · rw [List.map_cons, List.nodup_cons]; exact h
    · rename_i c
      rw [List.map_cons, List.nodup_cons, ups_key]
      exact ⟨fun q => q.elim h.1 fun q => c q, ups_nd A e t h.2⟩
theorem look_ups (x : E) : ∀ (A : AL) (e : E) (t : Int), look (ups A e t) x = look A x ++ if e = x then [t] else []
  | [], e, t => by simp [ups, look]
  | p :: A, e, t => by
    unfold ups
    split
    · rename_i h
      subst h
      simp only [look]
      split <;> simp
    · rename_i h
      simp only [look]
      split
      · rename_i c
        rw [if_neg (fun z => h (c.trans z.symm)), List.append_nil]
      · exact look_ups x A e t
def metF (A : AL) (S : List (E × Int)) : AL := S.foldl (fun A p => ups A p.1 p.2) A
theorem metF_key (x : E) : ∀ (S : List (E × Int)) (A : AL), x ∈ (metF A S).map (·.1) ↔ x ∈ A.map (·.1) ∨ x ∈ S.map (·.1)
  | [], A => by simp [metF]
  | p :: S, A => by
    show x ∈ (metF (ups A p.1 p.2) S).map (·.1) ↔ _
    rw [metF_key x S, ups_key, List.map_cons, List.mem_cons, or_assoc]
theorem metF_nd : ∀ (S : List (E × Int)) (A : AL), (A.map (·.1)).Nodup → ((metF A S).map (·.1)).Nodup
  | [], A, h => h
  | p :: S, A, h => metF_nd S _ (ups_nd A p.1 p.2 h)
theorem metF_look (x : E) : ∀ (S : List (E × Int)) (A : AL), look (metF A S) x = look A x ++ (S.filter fun p => decide (p.1 = x)).map (·.2)
  | [], A => by simp [metF]
  | p :: S, A => by
    show look (metF (ups A p.1 p.2) S) x = _
    rw [metF_look x S, look_ups, List.append_assoc]
    congr 1
    by_cases c : p.1 = x
    · rw [if_pos c, List.filter_cons_of_pos (by simpa using c)]; rfl
    · rw [if_neg c, List.filter_cons_of_neg (by simpa using c)]; rfl
theorem look_at : ∀ {A : AL}, (A.map (·.1)).Nodup → ∀ p ∈ A, look A p.1 = p.2
  | q :: A, h, p, hp => by
    rw [List.map_cons, List.nodup_cons] at h
    rw [look]
    rcases List.mem_cons.mp hp with rfl | hp
    · rw [if_pos rfl]
    · rw [if_neg (fun (z : q.1 = p.1) => h.1 (by rw [z]; exact List.mem_map.mpr ⟨p, hp, rfl⟩)), look_at h.2 p hp]
end Lw
namespace Lw
open PySem RT Wb
variable {n : Int} {ss : List Sc} {a : Int}
def ev1 (ss : List Sc) (a v : Int) (b : Br) : Option (E × Int) := (evB ss a v b).map fun e => (e, b.2.2)
def evs1 (ss : List Sc) (a v : Int) : List (E × Int) := (brs ss v).filterMap (ev1 ss a v)
def evs (ss : List Sc) (a : Int) (l : List Int) : List (E × Int) := l.flatMap (evs1 ss a)
def met (ss : List Sc) (a : Int) (l : List Int) : AL := metF [] (evs ss a l)
theorem metF_app (A : AL) (S T : List (E × Int)) : metF A (S ++ T) = metF (metF A S) T := List.foldl_append
theorem spk_ok (k : Ok n ss) {v : Int} (hv : Rg ss v) {b : Br} (hb : b ∈ brs ss v) : (0 ≤ spk (scAt ss v) ∧ spk (scAt ss v) < n) ∧ OkB n ss.length (spk (scAt ss v)) b := by
  obtain ⟨bs, e, hb'⟩ := scAt_brs hb
  have hm := (scAt_mem hv.1 hv.2).2
  rw [e] at hm
  obtain ⟨h1, h2, h3⟩ := k.sc _ _ hm
  exact ⟨h1, h3 b hb'⟩
theorem ev_ok (k : Ok n ss) {v : Int} (hv : Rg ss v) {b : Br} (hb : b ∈ brs ss v) {e : E} (he : evB ss a v b = some e) : EOk e := by
  obtain ⟨h1, h2⟩ := spk_ok k hv hb
  have hn := k.n2
  have hh := h2.h
  have hw := h2.w
  unfold evB ev at he
  split at he
  · cases he; exact ⟨⟨hh.1, by simp only; omega⟩, hw⟩
  · split at he
    · cases he; exact ⟨⟨h1.1, by simp only; omega⟩, hw⟩
    · cases he
theorem evs1_ok (k : Ok n ss) {v : Int} (hv : Rg ss v) {p : E × Int} (hp : p ∈ evs1 ss a v) : EOk p.1 ∧ Rg ss p.2 := by
  obtain ⟨b, hb, e⟩ := List.mem_filterMap.mp hp
  unfold ev1 at e
  obtain ⟨e', h1, h2⟩ := Option.map_eq_some_iff.mp e
  cases h2
  exact ⟨ev_ok k hv hb h1, brs_t k hv b hb⟩
theorem evs_ok (k : Ok n ss) {l : List Int} (hl : ∀ v ∈ l, Rg ss v) {p : E × Int} (hp : p ∈ evs ss a l) : EOk p.1 ∧ Rg ss p.2 := by
  obtain ⟨v, hv, h⟩ := List.mem_flatMap.mp hp
  exact evs1_ok k (hl v hv) h
theorem brs_two (k : Ok n ss) {v : Int} (hv : Rg ss v) : brs ss v = [] ∨ Two (brs ss v) := by
  unfold brs
  have hm := (scAt_mem hv.1 hv.2).2
  cases c : scAt ss v with
  | none => exact .inl rfl
  | some p => rw [c] at hm; exact .inr (k.sc p.1 p.2 hm).2.1
theorem evs1_one (k : Ok n ss) {v : Int} (hv : Rg ss v) (x : E) : ((evs1 ss a v).filter fun p => decide (p.1 = x)).length ≤ 1 := by
  unfold evs1
  rcases brs_two k hv with e | ⟨b, e⟩ | ⟨b, c, e, hlt⟩
  · rw [e]; simp
  · rw [e]; exact Nat.le_trans (List.length_filter_le _ _) (List.length_filterMap_le _ _)
  · rw [e]
    have ne : ∀ x : E, evB ss a v b = some x → evB ss a v c = some x → False := by
      intro x h1 h2
      have hne : ¬ (b.1 = c.1 ∧ b.2.1 = c.2.1) := by
        rintro ⟨q1, q2⟩
        rw [q1, q2] at hlt
        simp [HT.lexLt] at hlt
      unfold evB ev at h1 h2
      by_cases s1 : a = spk (scAt ss v)
      · rw [if_pos s1] at h1 h2
        cases h1
        simp only [Option.some.injEq, Prod.mk.injEq, true_and] at h2
        exact hne ⟨h2.1.symm, h2.2.symm⟩
      · rw [if_neg s1] at h1 h2
        by_cases s2 : a = b.1
        · rw [if_pos s2] at h1
          by_cases s3 : a = c.1
          · rw [if_pos s3] at h2
            cases h1
            simp only [Option.some.injEq, Prod.mk.injEq, true_and] at h2
            exact hne ⟨s2.symm.trans s3, h2.symm⟩
          · rw [if_neg s3] at h2; cases h2
        · rw [if_neg s2] at h1; cases h1
    cases h1 : evB ss a v b with
    | none =>
      have : ev1 ss a v b = none := by unfold ev1; rw [h1]; rfl
      rw [List.filterMap_cons_none this]
      exact Nat.le_trans (List.length_filter_le _ _) (List.length_filterMap_le _ [c])
    | some e1 =>
      have t1 : ev1 ss a v b = some (e1, b.2.2) := by unfold ev1; rw [h1]; rfl
      rw [List.filterMap_cons_some t1]
      cases h2 : evB ss a v c with
      | none =>
        have : ev1 ss a v c = none := by unfold ev1; rw [h2]; rfl
        rw [List.filterMap_cons_none this]
        exact List.length_filter_le _ _
      | some e2 =>
        have t2 : ev1 ss a v c = some (e2, c.2.2) := by unfold ev1; rw [h2]; rfl
        rw [List.filterMap_cons_some t2, List.filterMap_nil]
        have d : e1 ≠ e2 := fun z => ne e1 h1 (by rw [h2, z])
        by_cases q1 : e1 = x
        · have q2 : e2 ≠ x := fun z => d (q1.trans z.symm)
          simp [q1, q2]
        · by_cases q2 : e2 = x <;> simp [q1, q2]
theorem evs_cnt (k : Ok n ss) (x : E) : ∀ {l : List Int}, (∀ v ∈ l, Rg ss v) → ((evs ss a l).filter fun p => decide (p.1 = x)).length ≤ l.length
  | [], _ => by simp [evs]
  | v :: l, h => by
    have h1 := evs1_one (a := a) k (h v List.mem_cons_self) x
    have h2 := evs_cnt k x (l := l) fun u hu => h u (List.mem_cons_of_mem _ hu)
    unfold evs at h2 ⊢
    rw [List.flatMap_cons, List.filter_append, List.length_append, List.length_cons]
    omega
theorem evs_len (k : Ok n ss) : ∀ {l : List Int}, (∀ v ∈ l, Rg ss v) → (evs ss a l).length ≤ 2 * l.length
  | [], _ => by simp [evs]
  | v :: l, h => by
    have h1 : (evs1 ss a v).length ≤ 2 := Nat.le_trans (List.length_filterMap_le _ _) (brs_len k (h v List.mem_cons_self))
    have h2 := evs_len k (l := l) fun u hu => h u (List.mem_cons_of_mem _ hu)
    unfold evs at h2 ⊢
    rw [List.flatMap_cons, List.length_append, List.length_cons]
    omega
def Bd (ss : List Sc) (c : Nat) (A : AL) : Prop := A.length ≤ c ∧ ∀ p ∈ A, EOk p.1 ∧ p.2.length ≤ c ∧ ∀ t ∈ p.2, Rg ss t
theorem ups_bd {t : Int} (ht : Rg ss t) {e : E} (he : EOk e) : ∀ {A : AL} {c : Nat}, Bd ss c A → Bd ss (c + 1) (ups A e t)
  | [], c, h => ⟨by simp [ups], fun p hp => by
      rw [ups, List.mem_singleton] at hp
      subst hp
      exact ⟨he, by simp, fun x hx => by rw [List.mem_singleton] at hx; exact hx ▸ ht⟩⟩
  | p :: A, c, h => by
    obtain ⟨h1, h2⟩ := h
    rw [List.length_cons] at h1
    obtain ⟨p1, p2, p3⟩ := h2 p List.mem_cons_self
    unfold ups
    split
    · refine ⟨by rw [List.length_cons]; omega, fun q hq => ?_⟩
      rcases List.mem_cons.mp hq with rfl | hq
      · exact ⟨p1, by simp only [List.length_append, List.length_singleton]; omega, fun x hx => by
          rcases List.mem_append.mp hx with hx | hx
          · exact p3 x hx
          · rw [List.mem_singleton] at hx; exact hx ▸ ht⟩
      · obtain ⟨q1, q2, q3⟩ := h2 q (List.mem_cons_of_mem _ hq)
        exact ⟨q1, by omega, q3⟩
    · cases c with
      | zero => omega
      | succ c =>
        have hb : Bd ss (c + 1) A := ⟨by omega, fun q hq => h2 q (List.mem_cons_of_mem _ hq)⟩
        obtain ⟨r1, r2⟩ := ups_bd ht he hb
        have hlen : (ups A e t).length ≤ A.length + 1 := by
          clear r1 r2 hb h1 h2 p1 p2 p3
          induction A with
          | nil => simp [ups]
          | cons q A ih => unfold ups; split <;> simp only [List.length_cons] <;> omega
        refine ⟨by rw [List.length_cons]; omega, fun q hq => ?_⟩
        rcases List.mem_cons.mp hq with rfl | hq
        · exact ⟨p1, by omega, p3⟩
        · exact r2 q hq
theorem metF_bd : ∀ {S : List (E × Int)} {A : AL} {c : Nat}, (∀ p ∈ S, EOk p.1 ∧ Rg ss p.2) → Bd ss c A → Bd ss (c + S.length) (metF A S)
  | [], A, c, _, h => h
  | p :: S, A, c, hS, h => by
    have hp := hS p List.mem_cons_self
    have := metF_bd (S := S) (fun q hq => hS q (List.mem_cons_of_mem _ hq)) (ups_bd hp.2 hp.1 h)
    rw [List.length_cons, show c + (S.length + 1) = c + 1 + S.length by omega]
    exact this
/-! the program's notes, the law's notes -/
def pDc (ss : List Sc) (a : Int) (A : AL) : List (D × D) := A.map fun p => (eE p.1, il (p.2.flatMap (J ss a)))
def lDc (A : AL) : List (D × D) := A.map fun p => (eE p.1, il p.2)
theorem ext_p (e : E) (t : Int) : ∀ A : AL, extD (eE e) (mE e) ((J ss a t).map .int) (pDc ss a A) = pDc ss a (ups A e t)
  | [] => by simp [pDc, extD, ups]
  | p :: A => by
    have ih := ext_p e t A
    unfold pDc at ih ⊢
    rw [List.map_cons, extD, key_eE]
    by_cases c : p.1 = e
    · rw [if_pos (by rw [c]), ups, if_pos c, List.map_cons]; simp
    · rw [if_neg (fun h => c (mE_inj (Option.some.inj h))), ups, if_neg c, List.map_cons, ih]
theorem val_p (e : E) : ∀ {A : AL}, e ∈ A.map (·.1) → valD dKeyT (pDc ss a A) (mE e) = some (il ((look A e).flatMap (J ss a)))
  | p :: A, h => by
    unfold pDc valD
    rw [List.map_cons, List.find?_cons]
    simp only [key_eE]
    by_cases c : p.1 = e
    · simp only [c, decide_true, look, if_pos, Option.map_some]
    · have : mE p.1 ≠ mE e := fun h => c (mE_inj h)
      simp only [Option.some.injEq, this, decide_false, look, if_neg c]
      have h' : e ∈ A.map (·.1) := by
        rw [List.map_cons, List.mem_cons] at h
        exact h.resolve_left fun z => c z.symm
      exact val_p e h'
theorem val_l (e : E) : ∀ (A : AL), (valD dKeyT (lDc A) (mE e)).getD (.list []) = il (look A e)
  | [] => rfl
  | p :: A => by
    have ih := val_l e A
    unfold lDc valD at ih ⊢
    rw [List.map_cons, List.find?_cons]
    simp only [key_eE]
    by_cases c : p.1 = e
    · simp only [c, decide_true, look, if_pos, Option.map_some]; rfl
    · have : mE p.1 ≠ mE e := fun h => c (mE_inj h)
      simp only [Option.some.injEq, this, decide_false, look, if_neg c]
      exact ih
theorem val_l2 (e : E) : ∀ {A : AL}, e ∈ A.map (·.1) → valD dKeyT (lDc A) (mE e) = some (il (look A e))
  | p :: A, h => by
    unfold lDc valD
    rw [List.map_cons, List.find?_cons]
    simp only [key_eE]
    by_cases c : p.1 = e
    · simp only [c, decide_true, look, if_pos, Option.map_some]
    · have : mE p.1 ≠ mE e := fun h => c (mE_inj h)
      simp only [Option.some.injEq, this, decide_false, look, if_neg c]
      have h' : e ∈ A.map (·.1) := by
        rw [List.map_cons, List.mem_cons] at h
        exact h.resolve_left fun z => c z.symm
      exact val_l2 e h'
theorem ups_in (e : E) (t : Int) : ∀ {A : AL}, (A.map (·.1)).Nodup → e ∈ A.map (·.1) → ups A e t = A.map fun p => if p.1 = e then (p.1, p.2 ++ [t]) else p
  | p :: A, hn, h => by
    rw [List.map_cons, List.nodup_cons] at hn
    rw [ups, List.map_cons]
    by_cases c : p.1 = e
    · rw [if_pos c, if_pos c]
      congr 1
      refine (List.map_id A).symm.trans (List.map_congr_left fun q hq => ?_)
      rw [if_neg fun z => hn.1 (by rw [c, ← z]; exact List.mem_map.mpr ⟨q, hq, rfl⟩)]; rfl
    · rw [if_neg c, if_neg c]
      have h' : e ∈ A.map (·.1) := by
        rw [List.map_cons, List.mem_cons] at h
        exact h.resolve_left fun z => c z.symm
      rw [ups_in e t hn.2 h']
theorem ups_out (e : E) (t : Int) : ∀ {A : AL}, e ∉ A.map (·.1) → ups A e t = A ++ [(e, [t])]
  | [], _ => rfl
  | p :: A, h => by
    rw [List.map_cons, List.mem_cons, not_or] at h
    rw [ups, if_neg fun z => h.1 z.symm, ups_out e t h.2]; rfl
theorem look_out (e : E) : ∀ {A : AL}, e ∉ A.map (·.1) → look A e = []
  | [], _ => rfl
  | p :: A, h => by
    rw [List.map_cons, List.mem_cons, not_or] at h
    rw [look, if_neg fun z => h.1 z.symm, look_out e h.2]
theorem put_l (e : E) (t : Int) {A : AL} (hn : (A.map (·.1)).Nodup) : putD dKeyT (lDc A) (eE e) (mE e) (il (look A e ++ [t])) = lDc (ups A e t) := by
  have ha : ((lDc A).any fun p => decide (dKeyT p.1 = some (mE e))) = decide (e ∈ A.map (·.1)) := by
    rw [Bool.eq_iff_iff, List.any_eq_true, decide_eq_true_eq, List.mem_map]
    constructor
    · rintro ⟨q, hq, hk⟩
      obtain ⟨p, hp, rfl⟩ := List.mem_map.mp hq
      have hk := of_decide_eq_true hk
      rw [key_eE] at hk
      exact ⟨p, hp, mE_inj (Option.some.inj hk)⟩
    · rintro ⟨p, hp, rfl⟩
      exact ⟨_, List.mem_map.mpr ⟨p, hp, rfl⟩, decide_eq_true (key_eE p.1)⟩
  unfold putD
  rw [ha]
  by_cases c : e ∈ A.map (·.1)
  · rw [if_pos (decide_eq_true c), ups_in e t hn c]
    unfold lDc
    rw [List.map_map, List.map_map]
    refine List.map_congr_left fun p hp => ?_
    simp only [Function.comp, key_eE]
    by_cases q : p.1 = e
    · rw [if_pos (by rw [q]), if_pos q, ← look_at hn p hp, q]
    · rw [if_neg (fun h => q (mE_inj (Option.some.inj h))), if_neg q]
  · rw [if_neg (by simpa using c), ups_out e t c, look_out e c]
    unfold lDc
    rw [List.map_append]; rfl
end Lw
namespace Lw
open PySem RT Wb
variable {n : Int} {ss : List Sc} {a : Int}
def nx (ss : List Sc) (a : Int) (l : List Int) : List (E × List Int) := (srtE ((met ss a l).map (·.1))).map fun e => (e, cl ss a (look (met ss a l) e))
def stE (p : E × List Int) : D := .tuple [eE p.1, tI p.2]
def JD (ss : List Sc) (a : Int) : D := .list ((List.range ss.length).map fun (i : Nat) => tI (J ss a i))
theorem J_at {v : Int} (hv : Rg ss v) : gAt (JD ss a) (.int v) = some (tI (J ss a v)) := by
  simp only [JD, gAt]
  refine atI_int hv.1 ?_
  have hv := hv
  rw [List.getElem?_map, List.getElem?_range (by omega)]
  simp only [Option.map_some]
  rw [show ((v.toNat : Nat) : Int) = v by omega]
theorem wD_at2 {v : Int} (hv : Rg ss v) : gAt (webD ss) (.int v) = some (.list ((brs ss v).map (eT (spk (scAt ss v))))) := by
  rw [web_at hv.1 hv.2, tk_eq]; rfl
theorem nd_len_p (k : Ok n ss) {A : AL} {c : Nat} (h : Bd ss c A) (q : List L2.Key) : ndLen q (pDc ss a A) ≤ c * ss.length := by
  unfold ndLen valD
  cases c1 : (pDc ss a A).find? fun p => decide (dKeyT p.1 = some q) with
  | none => simp
  | some p =>
    obtain ⟨p', hp', rfl⟩ := List.mem_map.mp (List.mem_of_find?_eq_some c1)
    simp only [Option.map_some, List.length_map]
    obtain ⟨_, h2, h3⟩ := h.2 p' hp'
    exact Nat.le_trans (flat_le p'.2 fun t ht => J_len k (h3 t ht)) (Nat.mul_le_mul_right _ h2)
theorem pDc_len {A : AL} : (pDc ss a A).length = A.length := by unfold pDc; rw [List.length_map]
def SBe (ss : List Sc) (a : Int) (l : List Int) (A : AL) (p5 p6 p7 p8 : FSl) : FEn := [.va (webD ss), .va (JD ss a), .va (tI l), .va (.int a), .nd (.dt (pDc ss a A)), p5, p6, p7, p8]
def sbB : FS := sSeq (sSet 8 (xVal (fCall m_event_of (aCons (fVar 6) (aCons (fVar 3) aNil)))))
    (sIf (fTst (fBin gNotN (fBor 8) (fC .none))) (sSdExt 4 (fVar 8) (fBin gAt (fBor 1) (fBor 7))) sNil)
def updO (A : AL) (o : Option (E × Int)) : AL := match o with
  | none => A
  | some p => ups A p.1 p.2
theorem sbB_eq (k : Ok n ss) {v : Int} (hv : Rg ss v) {b : Br} (hb : b ∈ brs ss v) {l : List Int} {A : AL} {c : Nat} (hB : Bd ss c A) (hc : c ≤ 100) (p8 : FSl) :
    sbB (SBe ss a l A (.va (.int v)) (.va (.tuple [.int (spk (scAt ss v)), .int b.1, .int b.2.1])) (.va (.int b.2.2)) p8) row0 = some (.nx (SBe ss a l (updO A (ev1 ss a v b)) (.va (.int v)) (.va (.tuple [.int (spk (scAt ss v)), .int b.1, .int b.2.1])) (.va (.int b.2.2)) (.va (oE (evB ss a v b)))), row0) := by
  have hm := k.m
  have c1 : sSet 8 (xVal (fCall m_event_of (aCons (fVar 6) (aCons (fVar 3) aNil)))) (SBe ss a l A (.va (.int v)) (.va (.tuple [.int (spk (scAt ss v)), .int b.1, .int b.2.1])) (.va (.int b.2.2)) p8) row0 = some (.nx (SBe ss a l A (.va (.int v)) (.va (.tuple [.int (spk (scAt ss v)), .int b.1, .int b.2.1])) (.va (.int b.2.2)) (.va (oE (evB ss a v b)))), row0) :=
    sV (fK (aC2 (vV rfl) (vV rfl)) (event_of_eq (spk (scAt ss v)) a b))
  have q := fB (gd := gNotN) (fb := fC .none) (vB (i := 8) rfl) rfl (notn_oE (evB ss a v b)) (env := SBe ss a l A (.va (.int v)) (.va (.tuple [.int (spk (scAt ss v)), .int b.1, .int b.2.1])) (.va (.int b.2.2)) (.va (oE (evB ss a v b)))) (x := row0)
  have q1 : fTst (fBin gNotN (fBor 8) (fC .none)) (SBe ss a l A (.va (.int v)) (.va (.tuple [.int (spk (scAt ss v)), .int b.1, .int b.2.1])) (.va (.int b.2.2)) (.va (oE (evB ss a v b)))) row0 = some ((evB ss a v b).isSome, row0) := by simp only [fTst, q]
  unfold sbB
  rw [sSeq_nx c1]
  have ht := brs_t k hv b hb
  cases he : evB ss a v b with
  | none =>
    rw [he] at q1
    have e1 : ev1 ss a v b = none := by unfold ev1; rw [he]; rfl
    simp only [sIf, q1, Option.isSome_none, sNil, e1, updO]
  | some e =>
    rw [he] at q1
    have e1 : ev1 ss a v b = some (e, b.2.2) := by unfold ev1; rw [he]; rfl
    simp only [sIf, q1, Option.isSome_some, e1, updO]
    have hlen : (pDc ss a A).length < maxLen := nob_n (by rw [pDc_len]; have := hB.1; omega)
    have hnl := nd_len_p (a := a) k hB (mE e)
    have hJ := J_len (a := a) k ht
    have hmul : c * ss.length ≤ 100 * 7 := Nat.mul_le_mul hc hm.2
    have hl2 : ndLen (mE e) (pDc ss a A) + ((J ss a b.2.2).map D.int).length ≤ maxLen := by rw [List.length_map]; exact Nat.le_of_lt (nob_n (by omega))
    have d1 : fVar 8 (SBe ss a l A (.va (.int v)) (.va (.tuple [.int (spk (scAt ss v)), .int b.1, .int b.2.1])) (.va (.int b.2.2)) (.va (oE (some e)))) row0 = some (eE e, row0) := rfl
    have d2 : fBin gAt (fBor 1) (fBor 7) ((SBe ss a l A (.va (.int v)) (.va (.tuple [.int (spk (scAt ss v)), .int b.1, .int b.2.1])) (.va (.int b.2.2)) (.va (oE (some e)))).set 4 (.nd (.dt (extD (eE e) (mE e) [] (pDc ss a A))))) row0 = some (tI (J ss a b.2.2), row0) := fB (vB rfl) (vB rfl) (J_at ht)
    have d3 : (SBe ss a l A (.va (.int v)) (.va (.tuple [.int (spk (scAt ss v)), .int b.1, .int b.2.1])) (.va (.int b.2.2)) (.va (oE (some e))))[4]? = some (.nd (.dt (pDc ss a A))) := rfl
    simp only [sSdExt, d1, key_eE, d3, if_pos hlen, d2, if_pos hl2, ext_p]
    rfl
theorem metF_cons1 (A : AL) (v : Int) (b : Br) (bs : List Br) : metF A ((b :: bs).filterMap (ev1 ss a v)) = metF (updO A (ev1 ss a v b)) (bs.filterMap (ev1 ss a v)) := by
  cases h : ev1 ss a v b with
  | none => rw [List.filterMap_cons_none h]; rfl
  | some p => rw [List.filterMap_cons_some h]; rfl
theorem updO_bd (k : Ok n ss) {v : Int} (hv : Rg ss v) {b : Br} (hb : b ∈ brs ss v) {A : AL} {c : Nat} (hB : Bd ss c A) : Bd ss (c + 1) (updO A (ev1 ss a v b)) := by
  cases h : ev1 ss a v b with
  | none => exact ⟨Nat.le_succ_of_le hB.1, fun p hp => by obtain ⟨h1, h2, h3⟩ := hB.2 p hp; exact ⟨h1, by omega, h3⟩⟩
  | some p =>
    have := evs1_ok (a := a) k hv (p := p) (List.mem_filterMap.mpr ⟨b, hb, h⟩)
    exact ups_bd this.2 this.1 hB
theorem sbI (k : Ok n ss) {v : Int} (hv : Rg ss v) {l : List Int} : ∀ (bs : List Br) (A : AL) (c : Nat) (p6 p7 p8 : FSl), (∀ b ∈ bs, b ∈ brs ss v) → Bd ss c A → c + bs.length ≤ 100 →
    ∃ q6 q7 q8, forL (gtTup 2 (gtCons (gtName 6) (gtCons (gtName 7) gtNil))) sbB (bs.map (eT (spk (scAt ss v)))) (SBe ss a l A (.va (.int v)) p6 p7 p8) row0 = some (.nx (SBe ss a l (metF A (bs.filterMap (ev1 ss a v))) (.va (.int v)) q6 q7 q8), row0) ∧ Bd ss (c + bs.length) (metF A (bs.filterMap (ev1 ss a v)))
  | [], A, c, p6, p7, p8, _, hB, _ => ⟨p6, p7, p8, rfl, hB⟩
  | b :: bs, A, c, p6, p7, p8, hb, hB, hc => by
    rw [List.length_cons] at hc
    have hb0 := hb b List.mem_cons_self
    obtain ⟨q6, q7, q8, e, hB'⟩ := sbI k hv (l := l) bs (updO A (ev1 ss a v b)) (c + 1) (.va (.tuple [.int (spk (scAt ss v)), .int b.1, .int b.2.1])) (.va (.int b.2.2)) (.va (oE (evB ss a v b))) (fun x hx => hb x (List.mem_cons_of_mem _ hx)) (updO_bd k hv hb0 hB) (by omega)
    refine ⟨q6, q7, q8, ?_, ?_⟩
    · have c1 := sbB_eq (a := a) k hv hb0 (l := l) hB (by omega) p8
      rw [List.map_cons, forL]
      rw [show gtTup 2 (gtCons (gtName 6) (gtCons (gtName 7) gtNil)) (eT (spk (scAt ss v)) b) (SBe ss a l A (.va (.int v)) p6 p7 p8) = some (SBe ss a l A (.va (.int v)) (.va (.tuple [.int (spk (scAt ss v)), .int b.1, .int b.2.1])) (.va (.int b.2.2)) p8) from rfl]
      simp only [c1]
      rw [metF_cons1]
      exact e
    · rw [metF_cons1, List.length_cons, show c + (bs.length + 1) = c + 1 + bs.length by omega]
      exact hB'
def sbO : FS := sFor (fSeq (fBin gAt (fBor 0) (fBor 5))) (gtTup 2 (gtCons (gtName 6) (gtCons (gtName 7) gtNil))) sbB
theorem evs_cons (v : Int) (us : List Int) (A : AL) : metF A (evs ss a (v :: us)) = metF (metF A (evs1 ss a v)) (evs ss a us) := by
  unfold evs; rw [List.flatMap_cons, metF_app]
theorem sbL (k : Ok n ss) {l : List Int} : ∀ (us : List Int) (A : AL) (c : Nat) (p5 p6 p7 p8 : FSl), (∀ u ∈ us, Rg ss u) → Bd ss c A → c + 2 * us.length ≤ 90 →
    ∃ q5 q6 q7 q8, forL (gtName 5) sbO (us.map .int) (SBe ss a l A p5 p6 p7 p8) row0 = some (.nx (SBe ss a l (metF A (evs ss a us)) q5 q6 q7 q8), row0)
  | [], A, c, p5, p6, p7, p8, _, hB, _ => ⟨p5, p6, p7, p8, rfl⟩
  | v :: us, A, c, p5, p6, p7, p8, hu, hB, hc => by
    rw [List.length_cons] at hc
    have hv := hu v List.mem_cons_self
    have hb2 := brs_len k hv
    obtain ⟨q6, q7, q8, e, hB'⟩ := sbI (a := a) k hv (l := l) (brs ss v) A c p6 p7 p8 (fun x hx => hx) hB (by omega)
    have hB2 : Bd ss (c + 2) (metF A (evs1 ss a v)) := ⟨by have := hB'.1; unfold evs1; omega, fun p hp => by obtain ⟨h1, h2, h3⟩ := hB'.2 p hp; exact ⟨h1, by omega, h3⟩⟩
    obtain ⟨r5, r6, r7, r8, e2⟩ := sbL k (l := l) us (metF A (evs1 ss a v)) (c + 2) (.va (.int v)) q6 q7 q8 (fun x hx => hu x (List.mem_cons_of_mem _ hx)) hB2 (by omega)
    refine ⟨r5, r6, r7, r8, ?_⟩
    have c1 : fSeq (fBin gAt (fBor 0) (fBor 5)) (SBe ss a l A (.va (.int v)) p6 p7 p8) row0 = some ((brs ss v).map (eT (spk (scAt ss v))), row0) := sqL (fB (vB rfl) (vB rfl) (wD_at2 hv))
    rw [List.map_cons, forL]
    simp only [gtName]
    rw [show (SBe ss a l A p5 p6 p7 p8).set 5 (.va (.int v)) = SBe ss a l A (.va (.int v)) p6 p7 p8 from rfl]
    simp only [sbO, sFor, c1]
    rw [e, evs_cons]
    exact e2
theorem met_key_ok (k : Ok n ss) {l : List Int} (hl : ∀ v ∈ l, Rg ss v) : ∀ e ∈ (met ss a l).map (·.1), EOk e := by
  intro e he
  rcases (metF_key e _ _).mp he with h | h
  · cases h
  · obtain ⟨p, hp, rfl⟩ := List.mem_map.mp h
    exact (evs_ok k hl hp).1
theorem met_nd (l : List Int) : ((met ss a l).map (·.1)).Nodup := metF_nd _ _ (by simp)
theorem met_bd (k : Ok n ss) {l : List Int} (hl : ∀ v ∈ l, Rg ss v) : Bd ss (2 * l.length) (met ss a l) := by
  have h := metF_bd (ss := ss) (S := evs ss a l) (A := []) (c := 0) (fun p hp => evs_ok k hl hp) ⟨by simp, fun p hp => by cases hp⟩
  have h2 := evs_len (a := a) k hl
  exact ⟨by have := h.1; unfold met; omega, fun p hp => by obtain ⟨h1, h3, h4⟩ := h.2 p hp; exact ⟨h1, by omega, h4⟩⟩
theorem tos_len (k : Ok n ss) {l : List Int} (hl : ∀ v ∈ l, Rg ss v) (e : E) : (look (met ss a l) e).length ≤ l.length := by
  unfold met
  rw [metF_look]
  simp only [look, List.nil_append, List.length_map]
  exact evs_cnt k e hl
theorem tos_in (k : Ok n ss) {l : List Int} (hl : ∀ v ∈ l, Rg ss v) (e : E) : ∀ t ∈ look (met ss a l) e, Rg ss t := by
  unfold met
  rw [metF_look]
  intro t ht
  simp only [look, List.nil_append] at ht
  obtain ⟨p, hp, rfl⟩ := List.mem_map.mp ht
  exact (evs_ok k hl (List.mem_filter.mp hp).1).2
theorem sets_behind_eq (k : Ok n ss) {l : List Int} (hl : ∀ v ∈ l, Rg ss v) (hn : l.length ≤ 7) : m_sets_behind [webD ss, JD ss a, tI l, .int a] = some (.list ((nx ss a l).map stE)) := by
  refine mkF_rt (x := row0) rfl ?_
  show b_sets_behind [.va (webD ss), .va (JD ss a), .va (tI l), .va (.int a), .no, .no, .no, .no, .no] row0 = _
  have hm := k.m
  have c1 : sNdD 4 [.va (webD ss), .va (JD ss a), .va (tI l), .va (.int a), .no, .no, .no, .no, .no] row0 = some (.nx (SBe ss a l [] .no .no .no .no), row0) := rfl
  obtain ⟨q5, q6, q7, q8, e⟩ := sbL (a := a) k (l := l) l [] 0 .no .no .no .no hl ⟨by simp, fun p hp => by cases hp⟩ (by omega)
  have c2 : fSeq (fVar 2) (SBe ss a l [] .no .no .no .no) row0 = some (l.map .int, row0) := sqT (vV rfl)
  unfold b_sets_behind
  rw [sSeq_nx c1]
  refine (sSeq_nx (for_eq c2 e)).trans ?_
  have hb := met_bd (a := a) k hl
  show sRet _ [.va (webD ss), .va (JD ss a), .va (tI l), .va (.int a), .va (.dictT (pDc ss a (met ss a l))), q5, q6, q7, q8] row0 = _
  have hk := met_key_ok (a := a) k hl
  have hkl : ((met ss a l).map (·.1)).length ≤ 100 := by rw [List.length_map]; have := hb.1; omega
  refine sR (lc_eq (ds := (srtE ((met ss a l).map (·.1))).map eE) (sqL (fK (aC1 (vB rfl)) ?_)) ?_ (nob_n (by rw [List.length_map]; unfold nx; rw [List.length_map, (srtE_perm _).length_eq]; omega)))
  · have := sortY_E (f := fun e => il ((look (met ss a l) e).flatMap (J ss a))) hk hkl
    rw [List.map_map] at this
    rw [← this]
    congr 4
    unfold pDc
    refine List.map_congr_left fun p hp => ?_
    simp only [Function.comp, look_at (met_nd l) p hp]
  · unfold nx
    rw [List.map_map]
    refine compL_map eE (stE ∘ fun e => (e, cl ss a (look (met ss a l) e))) _ fun e he => ⟨_, rfl, rfl, ?_⟩
    have he : e ∈ (met ss a l).map (·.1) := (srtE_perm _).mem_iff.mp he
    refine fTup_ok (aC2 (vV rfl) ?_) two_ml
    refine tupOf_ok (x := row0) ?_
    have hv : gAt (.dictT (pDc ss a (met ss a l))) (eE e) = some (il ((look (met ss a l) e).flatMap (J ss a))) := by
      simp only [gAt, gDAt, gDGet, key_eE, val_p e he]
    have ht := tos_in (a := a) k hl e
    have hlen : ((look (met ss a l) e).flatMap (J ss a)).length < 64 := by
      have h1 := flat_le (f := J ss a) (b := 7) (look (met ss a l) e) fun t ht' => Nat.le_trans (J_len k (ht t ht')) hm.2
      have h2 := tos_len (a := a) k hl e
      omega
    have q := fB (gd := gAt) (vB (i := 4) rfl) (vB (i := 8) rfl) hv (env := [.va (webD ss), .va (JD ss a), .va (tI l), .va (.int a), .va (.dictT (pDc ss a (met ss a l))), q5, q6, q7, .va (eE e)]) (x := row0)
    have q2 : fSrtS (nSetL (fBin gAt (fBor 4) (fBor 8))) [.va (webD ss), .va (JD ss a), .va (tI l), .va (.int a), .va (.dictT (pDc ss a (met ss a l))), q5, q6, q7, .va (eE e)] row0 = some (il (cl ss a (look (met ss a l) e)), row0) := by
      simp only [fSrtS, nSetL, q, intsD_map, if_pos hlen, setI_cl k ht]
    exact q2
end Lw
namespace Lw
open PySem RT Wb
variable {n : Int} {ss : List Sc} {a : Int}
def LSe (n : Int) (ss : List Sc) (a : Int) (l : List Int) (A : AL) (p4 p5 p6 : FSl) : FEn := [.va (eX n ss), .va (tI l), .va (.int a), .ow (.dt (lDc A)), p4, p5, p6]
def lsB : FS := sSeq (sSet 6 (xVal (fCall m_law_event (aCons (fVar 0) (aCons (fVar 4) (aCons (fVar 5) (aCons (fVar 2) aNil)))))))
    (sIf (fTst (fBin gNotN (fBor 6) (fC .none))) (sDPut 3 (fVar 6) (fBin gAdd (fGet2 (fBor 3) (fVar 6) (fLst aNil)) (fLst (aCons (fBin gAt (fBor 5) (fC (.int 2))) aNil)))) sNil)
theorem catL_ok {fa fb : FE} {env : FEn} {x : FRow} {xs ys : List D} (h : fa env x = some (.list xs, x)) (h' : fb env x = some (.list ys, x)) (hl : xs.length + ys.length ≤ maxLen) : fBin gAdd fa fb env x = some (.list (xs ++ ys), x) := by
  refine fBin_eq h h' ?_
  simp only [gAdd, gOr, gAddI, gI, gCatT, gCatL, if_pos hl]
theorem lsB_eq (k : Ok n ss) {v : Int} (hv : Rg ss v) {b : Br} (hb : b ∈ brs ss v) {l : List Int} {A : AL} {c : Nat} (hB : Bd ss c A) (hn : (A.map (·.1)).Nodup) (hc : c ≤ 100) (p6 : FSl) :
    lsB (LSe n ss a l A (.va (.int v)) (.va (eB b)) p6) row0 = some (.nx (LSe n ss a l (updO A (ev1 ss a v b)) (.va (.int v)) (.va (eB b)) (.va (oE (evB ss a v b)))), row0) := by
  have c1 : sSet 6 (xVal (fCall m_law_event (aCons (fVar 0) (aCons (fVar 4) (aCons (fVar 5) (aCons (fVar 2) aNil)))))) (LSe n ss a l A (.va (.int v)) (.va (eB b)) p6) row0 = some (.nx (LSe n ss a l A (.va (.int v)) (.va (eB b)) (.va (oE (evB ss a v b)))), row0) :=
    sV (fK (aCons_eq (vV rfl) (aC3 (vV rfl) (vV rfl) (vV rfl))) (law_event_eq hv.1 hv.2 hb))
  have q := fB (gd := gNotN) (fb := fC .none) (vB (i := 6) rfl) rfl (notn_oE (evB ss a v b)) (env := LSe n ss a l A (.va (.int v)) (.va (eB b)) (.va (oE (evB ss a v b)))) (x := row0)
  have q1 : fTst (fBin gNotN (fBor 6) (fC .none)) (LSe n ss a l A (.va (.int v)) (.va (eB b)) (.va (oE (evB ss a v b)))) row0 = some ((evB ss a v b).isSome, row0) := by simp only [fTst, q]
  unfold lsB
  rw [sSeq_nx c1]
  cases he : evB ss a v b with
  | none =>
    rw [he] at q1
    have e1 : ev1 ss a v b = none := by unfold ev1; rw [he]; rfl
    simp only [sIf, q1, Option.isSome_none, sNil, e1, updO]
  | some e =>
    rw [he] at q1
    have e1 : ev1 ss a v b = some (e, b.2.2) := by unfold ev1; rw [he]; rfl
    simp only [sIf, q1, Option.isSome_some, e1, updO]
    have hlen : (lDc A).length < maxLen := nob_n (by unfold lDc; rw [List.length_map]; have := hB.1; omega)
    have hlook : (look A e).length ≤ 100 := by
      by_cases c : e ∈ A.map (·.1)
      · obtain ⟨p, hp, rfl⟩ := List.mem_map.mp c
        rw [look_at hn p hp]
        have := (hB.2 p hp).2.1
        omega
      · rw [look_out e c]; simp
    have d1 : fVar 6 (LSe n ss a l A (.va (.int v)) (.va (eB b)) (.va (oE (some e)))) row0 = some (eE e, row0) := rfl
    have d2 : fGet2 (fBor 3) (fVar 6) (fLst aNil) (LSe n ss a l A (.va (.int v)) (.va (eB b)) (.va (oE (some e)))) row0 = some (il (look A e), row0) := by
      have z1 : fBor 3 (LSe n ss a l A (.va (.int v)) (.va (eB b)) (.va (oE (some e)))) row0 = some (.dictT (lDc A), row0) := vO (i := 3) (d := .dt (lDc A)) rfl
      have z2 : fLst aNil (LSe n ss a l A (.va (.int v)) (.va (eB b)) (.va (oE (some e)))) row0 = some (.list [], row0) := fLst_ok rfl nil_ml
      simp only [fGet2, z1, d1, z2, gGet, key_eE, Option.map_some, val_l]
    have d3 : fLst (aCons (fBin gAt (fBor 5) (fC (.int 2))) aNil) (LSe n ss a l A (.va (.int v)) (.va (eB b)) (.va (oE (some e)))) row0 = some (il [b.2.2], row0) := fLst_ok (aC1 (fB (vB rfl) rfl (eB_2 b))) one_ml
    have d4 := catL_ok d2 d3 (Nat.le_of_lt (nob_n (by simp only [List.length_map, List.length_singleton]; omega)))
    rw [← List.map_append] at d4
    have d5 : (LSe n ss a l A (.va (.int v)) (.va (eB b)) (.va (oE (some e))))[3]? = some (.ow (.dt (lDc A))) := rfl
    simp only [sDPut, d4, d1, d5, key_eE, if_pos hlen, put_l e b.2.2 hn]
    rfl
theorem updO_nd {A : AL} (hn : (A.map (·.1)).Nodup) (o : Option (E × Int)) : ((updO A o).map (·.1)).Nodup := by
  cases o with
  | none => exact hn
  | some p => exact ups_nd A p.1 p.2 hn
theorem lsI (k : Ok n ss) {v : Int} (hv : Rg ss v) {l : List Int} : ∀ (bs : List Br) (A : AL) (c : Nat) (p5 p6 : FSl), (∀ b ∈ bs, b ∈ brs ss v) → Bd ss c A → (A.map (·.1)).Nodup → c + bs.length ≤ 100 →
    ∃ q5 q6, forL (gtName 5) lsB (bs.map eB) (LSe n ss a l A (.va (.int v)) p5 p6) row0 = some (.nx (LSe n ss a l (metF A (bs.filterMap (ev1 ss a v))) (.va (.int v)) q5 q6), row0) ∧ Bd ss (c + bs.length) (metF A (bs.filterMap (ev1 ss a v)))
  | [], A, c, p5, p6, _, hB, _, _ => ⟨p5, p6, rfl, hB⟩
  | b :: bs, A, c, p5, p6, hb, hB, hn, hc => by
    rw [List.length_cons] at hc
    have hb0 := hb b List.mem_cons_self
    obtain ⟨q5, q6, e, hB'⟩ := lsI k hv (l := l) bs (updO A (ev1 ss a v b)) (c + 1) (.va (eB b)) (.va (oE (evB ss a v b))) (fun x hx => hb x (List.mem_cons_of_mem _ hx)) (updO_bd k hv hb0 hB) (updO_nd hn _) (by omega)
    refine ⟨q5, q6, ?_, ?_⟩
    · have c1 := lsB_eq (a := a) k hv hb0 (l := l) hB hn (by omega) p6
      rw [List.map_cons, forL]
      simp only [gtName]
      rw [show (LSe n ss a l A (.va (.int v)) p5 p6).set 5 (.va (eB b)) = LSe n ss a l A (.va (.int v)) (.va (eB b)) p6 from rfl]
      simp only [c1]
      rw [metF_cons1]
      exact e
    · rw [metF_cons1, List.length_cons, show c + (bs.length + 1) = c + 1 + bs.length by omega]
      exact hB'
def lsO : FS := sFor (fSeq (fCall m_law_branches (aCons (fVar 0) (aCons (fVar 4) aNil)))) (gtName 5) lsB
theorem lsL (k : Ok n ss) {l : List Int} : ∀ (us : List Int) (A : AL) (c : Nat) (p4 p5 p6 : FSl), (∀ u ∈ us, Rg ss u) → Bd ss c A → (A.map (·.1)).Nodup → c + 2 * us.length ≤ 90 →
    ∃ q4 q5 q6, forL (gtName 4) lsO (us.map .int) (LSe n ss a l A p4 p5 p6) row0 = some (.nx (LSe n ss a l (metF A (evs ss a us)) q4 q5 q6), row0)
  | [], A, c, p4, p5, p6, _, hB, _, _ => ⟨p4, p5, p6, rfl⟩
  | v :: us, A, c, p4, p5, p6, hu, hB, hn, hc => by
    rw [List.length_cons] at hc
    have hv := hu v List.mem_cons_self
    have hb2 := brs_len k hv
    obtain ⟨q5, q6, e, hB'⟩ := lsI (a := a) k hv (l := l) (brs ss v) A c p5 p6 (fun x hx => hx) hB hn (by omega)
    have hB2 : Bd ss (c + 2) (metF A (evs1 ss a v)) := ⟨by have := hB'.1; unfold evs1; omega, fun p hp => by obtain ⟨h1, h2, h3⟩ := hB'.2 p hp; exact ⟨h1, by omega, h3⟩⟩
    obtain ⟨r4, r5, r6, e2⟩ := lsL k (l := l) us (metF A (evs1 ss a v)) (c + 2) (.va (.int v)) q5 q6 (fun x hx => hu x (List.mem_cons_of_mem _ hx)) hB2 (metF_nd _ _ hn) (by omega)
    refine ⟨r4, r5, r6, ?_⟩
    have c1 : fSeq (fCall m_law_branches (aCons (fVar 0) (aCons (fVar 4) aNil))) (LSe n ss a l A (.va (.int v)) p5 p6) row0 = some ((brs ss v).map eB, row0) := sqT (fK (aC2 (vV rfl) (vV rfl)) (law_branches_eq hv.1 hv.2))
    rw [List.map_cons, forL]
    simp only [gtName]
    rw [show (LSe n ss a l A p4 p5 p6).set 4 (.va (.int v)) = LSe n ss a l A (.va (.int v)) p5 p6 from rfl]
    simp only [lsO, sFor, c1]
    rw [e, evs_cons]
    exact e2
theorem law_steps_eq (k : Ok n ss) {l : List Int} (hl : ∀ v ∈ l, Rg ss v) (hn : l.length ≤ 7) : m_law_steps [eX n ss, tI l, .int a] = some (.list ((nx ss a l).map stE)) := by
  refine mkF_rt (x := row0) rfl ?_
  show b_law_steps [.va (eX n ss), .va (tI l), .va (.int a), .no, .no, .no, .no] row0 = _
  have hm := k.m
  have c1 : sSet 3 (xNew (.dt [])) [.va (eX n ss), .va (tI l), .va (.int a), .no, .no, .no, .no] row0 = some (.nx (LSe n ss a l [] .no .no .no), row0) := rfl
  obtain ⟨q4, q5, q6, e⟩ := lsL (a := a) k (l := l) l [] 0 .no .no .no hl ⟨by simp, fun p hp => by cases hp⟩ (by simp) (by omega)
  have c2 : fSeq (fVar 1) (LSe n ss a l [] .no .no .no) row0 = some (l.map .int, row0) := sqT (vV rfl)
  unfold b_law_steps
  rw [sSeq_nx c1]
  refine (sSeq_nx (for_eq c2 e)).trans ?_
  have hb := met_bd (a := a) k hl
  show sRet _ (LSe n ss a l (met ss a l) q4 q5 q6) row0 = _
  have hk := met_key_ok (a := a) k hl
  have hkl : ((met ss a l).map (·.1)).length ≤ 100 := by rw [List.length_map]; have := hb.1; omega
  refine sR (lc_eq (ds := (srtE ((met ss a l).map (·.1))).map eE) (sqL ?_) ?_ (nob_n (by rw [List.length_map]; unfold nx; rw [List.length_map, (srtE_perm _).length_eq]; omega)))
  · have z1 : fCall gListOf (aCons (fBor 3) aNil) (LSe n ss a l (met ss a l) q4 q5 q6) row0 = some (.list (((met ss a l).map (·.1)).map eE), row0) := by
      refine fK (aC1 (vO rfl)) ?_
      simp only [OwD.d, gListOf, lDc, List.map_map]
      rfl
    exact fK (aC1 z1) (sortX_E hk hkl)
  · unfold nx
    rw [List.map_map]
    refine compL_map eE (stE ∘ fun e => (e, cl ss a (look (met ss a l) e))) _ fun e he => ⟨_, rfl, rfl, ?_⟩
    have he : e ∈ (met ss a l).map (·.1) := (srtE_perm _).mem_iff.mp he
    refine fTup_ok (aC2 (vV rfl) ?_) two_ml
    have hv : gAt (.dictT (lDc (met ss a l))) (eE e) = some (il (look (met ss a l) e)) := by
      simp only [gAt, gDAt, gDGet, key_eE, val_l2 e he]
    have ht := tos_in (a := a) k hl e
    have h2 := tos_len (a := a) k hl e
    exact fK (aC3 (vV rfl) (fB (vO (d := .dt (lDc (met ss a l))) rfl) (vB rfl) hv) (vV rfl)) (law_joined_eq k ht (by omega))
end Lw
namespace Lw
open PySem RT
/-! what grown answers over plain things -/
section
variable {α β : Type} [DecidableEq α]
def addA (th : List α) : List α → List α
  | [] => th
  | t :: r => addA (if t ∈ th then th else th ++ [t]) r
theorem addA_pre : ∀ (r th : List α), th <+: addA th r
  | [], th => ⟨[], by simp [addA]⟩
  | t :: r, th => by
    unfold addA
    refine List.IsPrefix.trans ?_ (addA_pre r _)
    split
    · exact ⟨[], by simp⟩
    · exact ⟨[t], rfl⟩
theorem addA_mem (x : α) : ∀ (r th : List α), x ∈ addA th r ↔ x ∈ th ∨ x ∈ r
  | [], th => by simp [addA]
  | t :: r, th => by
    unfold addA
    rw [addA_mem x r]
    by_cases h : t ∈ th
    · rw [if_pos h, List.mem_cons]
      constructor
      · rintro (h1 | h1)
        · exact .inl h1
        · exact .inr (.inr h1)
      · rintro (h1 | rfl | h1)
        · exact .inl h1
        · exact .inl h
        · exact .inr h1
    · rw [if_neg h, List.mem_append, List.mem_singleton, List.mem_cons, or_assoc]
theorem nd_snoc {th : List α} {t : α} (h : th.Nodup) (n : t ∉ th) : (th ++ [t]).Nodup := by
  rw [List.nodup_append]
  exact ⟨h, by simp, fun a ha b hb e => by
    rw [List.mem_singleton] at hb
    exact n (hb ▸ e ▸ ha)⟩
theorem addA_nd : ∀ (r th : List α), th.Nodup → (addA th r).Nodup
  | [], th, h => by simpa [addA] using h
  | t :: r, th, h => by
    unfold addA
    refine addA_nd r _ ?_
    split
    · exact h
    · rename_i n; exact nd_snoc h n
structure Gr (enc : α → D) (key : α → NestedKey) (P : α → Prop) : Prop where
  kt : ∀ a, P a → keyT (enc a) = some (key a)
  inj : ∀ a b, P a → P b → key a = key b → a = b
variable {enc : α → D} {key : α → NestedKey} {P : α → Prop}
theorem ix_eq (G : Gr enc key P) {a : α} (pa : P a) : ∀ (th : List α) (i : Nat), (∀ b ∈ th, P b) → ixF (key a) (th.map enc) i = if a ∈ th then some (i + th.idxOf a) else none
  | [], i, _ => by simp [ixF]
  | b :: th, i, h => by
    have pb := h b List.mem_cons_self
    have kb := (keyT_ok (G.kt b pb)).1
    rw [List.map_cons, ixF, kb]
    by_cases e : key b = key a
    · have := G.inj b a pb pa e
      subst this
      rw [if_pos rfl, if_pos List.mem_cons_self, List.idxOf_cons_self]; rfl
    · have ne : b ≠ a := fun h => e (by rw [h])
      rw [if_neg (fun h => e (Option.some.inj h)), ix_eq G pa th (i + 1) fun c hc => h c (List.mem_cons_of_mem _ hc)]
      by_cases m : a ∈ th
      · rw [if_pos m, if_pos (List.mem_cons_of_mem _ m), List.idxOf_cons, show (b == a) = false from beq_false_of_ne ne]
        congr 1
        show i + 1 + th.idxOf a = i + (th.idxOf a + 1)
        omega
      · rw [if_neg m, if_neg (fun h => (List.mem_cons.mp h).elim (fun h => ne h.symm) m)]
theorem grAdd_eq (G : Gr enc key P) {most : Option Nat} {B : Nat} (hB : ∀ l : List α, l.Nodup → (∀ a ∈ l, P a) → l.length ≤ B) (hB2 : B < 4000) (hm : ∀ k, most = some k → B ≤ k) (encB : β → D) : ∀ (r : List (β × α)) (th : List α), th.Nodup → (∀ a ∈ th, P a) → (∀ p ∈ r, P p.2) → grAdd most (th.map enc) (r.map fun p => (encB p.1, enc p.2)) = some ((addA th (r.map (·.2))).map enc)
  | [], th, _, _, _ => by simp [grAdd, addA]
  | p :: r, th, hn, ht, hr => by
    have pp := hr p List.mem_cons_self
    rw [List.map_cons, grAdd, G.kt p.2 pp]
    simp only
    rw [ix_eq G pp th 0 ht, List.map_cons, addA]
    by_cases m : p.2 ∈ th
    · rw [if_pos m, if_pos m]
      exact grAdd_eq G hB hB2 hm encB r th hn ht fun q hq => hr q (List.mem_cons_of_mem _ hq)
    · rw [if_neg m, if_neg m]
      have n2 := nd_snoc hn m
      have p2 : ∀ a ∈ th ++ [p.2], P a := fun a ha => by
        rcases List.mem_append.mp ha with h | h
        · exact ht a h
        · rw [List.mem_singleton] at h; exact h ▸ pp
      have hb := hB _ n2 p2
      rw [List.length_append, List.length_singleton] at hb
      simp only
      rw [if_neg (by rw [List.length_map]; intro h; have := hm _ h; omega), if_pos (by rw [List.length_map]; omega)]
      have := grAdd_eq G hB hB2 hm encB r (th ++ [p.2]) n2 p2 fun q hq => hr q (List.mem_cons_of_mem _ hq)
      rw [List.map_append] at this
      exact this
theorem grRow_eq (G : Gr enc key P) (encB : β → D) {th : List α} (ht : ∀ a ∈ th, P a) : ∀ (r : List (β × α)), (∀ p ∈ r, P p.2 ∧ p.2 ∈ th) → grRow (th.map enc) (r.map fun p => (encB p.1, enc p.2)) = some (r.map fun p => .tuple [encB p.1, .int ((th.idxOf p.2 : Nat) : Int)])
  | [], _ => rfl
  | p :: r, hr => by
    obtain ⟨pp, pm⟩ := hr p List.mem_cons_self
    rw [List.map_cons, grRow, G.kt p.2 pp]
    simp only
    rw [ix_eq G pp th 0 ht, if_pos pm]
    simp only
    rw [grRow_eq G encB ht r fun q hq => hr q (List.mem_cons_of_mem _ hq)]
    simp
theorem stepsD_eq (encB : β → D) (enc : α → D) : ∀ (r : List (β × α)), stepsD (r.map fun p => D.tuple [encB p.1, enc p.2]) = some (r.map fun p => (encB p.1, enc p.2))
  | [] => rfl
  | p :: r => by rw [List.map_cons, stepsD, stepsD_eq encB enc r]; rfl
def rowA (nx : α → List (β × α)) (encB : β → D) (th : List α) (a : α) : D := .list ((nx a).map fun p => .tuple [encB p.1, .int ((th.idxOf p.2 : Nat) : Int)])
def itA (a0 : α) (nx : α → List (β × α)) : Nat → List α
  | 0 => [a0]
  | k + 1 => match (itA a0 nx k)[k]? with
    | some a => addA (itA a0 nx k) ((nx a).map (·.2))
    | none => itA a0 nx k
structure Grn (a0 : α) (nx : α → List (β × α)) (P : α → Prop) (th : List α) (i : Nat) : Prop where
  nd : th.Nodup
  p : ∀ a ∈ th, P a
  hd : th.head? = some a0
  cl : ∀ j a, j < i → th[j]? = some a → ∀ p ∈ nx a, p.2 ∈ th
  gen : ∀ Q : α → Prop, Q a0 → (∀ a, P a → Q a → ∀ p ∈ nx a, Q p.2) → ∀ a ∈ th, Q a
  it : th = itA a0 nx i
theorem idx_pre {th th' : List α} (h : th <+: th') {a : α} (m : a ∈ th) : th'.idxOf a = th.idxOf a := by
  obtain ⟨r, rfl⟩ := h
  rw [List.idxOf_append, if_pos m]
theorem grLoop_eq (G : Gr enc key P) {nx : α → List (β × α)} {encB : β → D} {m : List D → Option D} {a0 : α} {most : Option Nat} {B : Nat}
    (hs : ∀ a, P a → m [enc a] = some (.list ((nx a).map fun p => .tuple [encB p.1, enc p.2]))) (hp : ∀ a, P a → ∀ p ∈ nx a, P p.2) (hl : ∀ a, P a → (nx a).length < 100000)
    (hB : ∀ l : List α, l.Nodup → (∀ a ∈ l, P a) → l.length ≤ B) (hB2 : B < 4000) (hm : ∀ k, most = some k → B ≤ k) : ∀ (n i : Nat) (th : List α), n + i = 4000 → i ≤ th.length → Grn a0 nx P th i →
    ∃ th', Grn a0 nx P th' th'.length ∧ grLoop m most n (th.map enc) ((th.take i).map (rowA nx encB th)) = some (th'.map enc, th'.map (rowA nx encB th'))
  | 0, i, th, e, hi, g => by have := hB th g.nd g.p; omega
  | n + 1, i, th, e, hi, g => by
    have hb := hB th g.nd g.p
    rw [grLoop]
    have lw : ((th.take i).map (rowA nx encB th)).length = i := by rw [List.length_map, List.length_take]; omega
    rw [lw, List.length_map]
    by_cases c : i < th.length
    · rw [if_pos c]
      have ea : th[i]? = some th[i] := List.getElem?_eq_getElem c
      have pa : P th[i] := g.p _ (List.getElem_mem c)
      have e1 : (th.map enc)[i]? = some (enc th[i]) := by rw [List.getElem?_map, ea]; rfl
      rw [e1]
      simp only
      rw [hs _ pa]
      simp only [seqD]
      rw [stepsD_eq]
      simp only
      have hpr := hp _ pa
      rw [grAdd_eq G hB hB2 hm encB _ th g.nd g.p hpr]
      simp only
      have n2 := addA_nd ((nx th[i]).map (·.2)) th g.nd
      have p2 : ∀ a ∈ addA th ((nx th[i]).map (·.2)), P a := fun a ha => by
        rcases (addA_mem a _ _).mp ha with h | h
        · exact g.p a h
        · obtain ⟨q, hq, rfl⟩ := List.mem_map.mp h; exact hpr q hq
      have m2 : ∀ q ∈ nx th[i], q.2 ∈ addA th ((nx th[i]).map (·.2)) := fun q hq => (addA_mem _ _ _).mpr (.inr (List.mem_map.mpr ⟨q, hq, rfl⟩))
      rw [grRow_eq G encB p2 _ fun q hq => ⟨hpr q hq, m2 q hq⟩]
      simp only
      rw [if_pos ⟨by rw [List.length_map]; exact hl _ pa, by omega⟩]
      have pre := addA_pre ((nx th[i]).map (·.2)) th
      have g2 : Grn a0 nx P (addA th ((nx th[i]).map (·.2))) (i + 1) := by
        refine ⟨n2, p2, ?_, ?_, ?_, by rw [itA, ← g.it, ea]⟩
        · obtain ⟨r, er⟩ := pre
          rw [← er]
          cases hth : th with
          | nil => rw [hth] at c; simp at c
          | cons b t => have := g.hd; rw [hth] at this; simpa using this
        · intro j a hj ha q hq
          by_cases cj : j < i
          · have : th[j]? = some a := by
              obtain ⟨r, er⟩ := pre
              rw [← er, List.getElem?_append_left (by omega)] at ha
              exact ha
            exact pre.subset (g.cl j a cj this q hq)
          · have : j = i := by omega
            subst this
            have : a = th[j] := by
              obtain ⟨r, er⟩ := pre
              rw [← er, List.getElem?_append_left c, ea] at ha
              exact (Option.some.inj ha).symm
            subst this
            exact m2 q hq
        · intro Q q0 qs a ha
          rcases (addA_mem a _ _).mp ha with h | h
          · exact g.gen Q q0 qs a h
          · obtain ⟨q, hq, rfl⟩ := List.mem_map.mp h
            exact qs _ pa (g.gen Q q0 qs _ (List.getElem_mem c)) q hq
      have ew : (th.take i).map (rowA nx encB th) ++ [rowA nx encB (addA th ((nx th[i]).map (·.2))) th[i]] = ((addA th ((nx th[i]).map (·.2))).take (i + 1)).map (rowA nx encB (addA th ((nx th[i]).map (·.2)))) := by
        have et : (addA th ((nx th[i]).map (·.2))).take (i + 1) = th.take i ++ [th[i]] := by
          obtain ⟨r, er⟩ := pre
          rw [← er, List.take_append_of_le_length (by omega), List.take_succ, ea]; rfl
        rw [et, List.map_append]
        congr 1
        refine List.map_congr_left fun a ha => ?_
        obtain ⟨j, hj, ej⟩ := List.mem_take_iff_getElem.mp ha
        have hja : th[j]? = some a := by rw [List.getElem?_eq_getElem (by omega), ej]
        unfold rowA
        congr 1
        refine List.map_congr_left fun q hq => ?_
        rw [idx_pre pre (g.cl j a (by omega) hja q hq)]
      have := grLoop_eq G hs hp hl hB hB2 hm n (i + 1) _ (by omega) (by have := pre.length_le; omega) g2
      rw [← ew] at this
      exact this
    · rw [if_neg c]
      have : i = th.length := by omega
      subst this
      exact ⟨th, g, by rw [List.take_length]⟩
theorem grown_eq (G : Gr enc key P) {nx : α → List (β × α)} {encB : β → D} {m : List D → Option D} {a0 : α} {most : Option Nat} {B : Nat} (p0 : P a0)
    (hs : ∀ a, P a → m [enc a] = some (.list ((nx a).map fun p => .tuple [encB p.1, enc p.2]))) (hp : ∀ a, P a → ∀ p ∈ nx a, P p.2) (hl : ∀ a, P a → (nx a).length < 100000)
    (hB : ∀ l : List α, l.Nodup → (∀ a ∈ l, P a) → l.length ≤ B) (hB2 : B < 4000) (hm : ∀ k, most = some k → B ≤ k) {b : D} (hb : mostD b = some most) :
    ∃ th, Grn a0 nx P th th.length ∧ gGrown m (enc a0) b = some (.tuple [.list (th.map enc), .list (th.map (rowA nx encB th))]) := by
  obtain ⟨th, g, e⟩ := grLoop_eq (a0 := a0) G hs hp hl hB hB2 hm 4000 0 [a0] rfl (Nat.zero_le _) ⟨by simp, fun a h => by rw [List.mem_singleton] at h; exact h ▸ p0, rfl, fun j a h => by omega, fun Q q0 _ a h => by rw [List.mem_singleton] at h; exact h ▸ q0, rfl⟩
  refine ⟨th, g, ?_⟩
  unfold gGrown
  rw [G.kt a0 p0, hb]
  simp only
  rw [show grLoop m most 4000 [enc a0] [] = _ from e]
theorem nd_len : ∀ {l u : List α}, l.Nodup → (∀ a ∈ l, a ∈ u) → l.length ≤ u.length
  | [], _, _, _ => Nat.zero_le _
  | a :: l, u, h, s => by
    rw [List.nodup_cons] at h
    have := nd_len (l := l) (u := u.erase a) h.2 fun b hb => (List.mem_erase_of_ne (fun (e : b = a) => h.1 (by rw [← e]; exact hb))).mpr (s b (List.mem_cons_of_mem _ hb))
    have hm := s a List.mem_cons_self
    have hp : 0 < u.length := List.length_pos_of_mem hm
    rw [List.length_erase_of_mem hm] at this
    rw [List.length_cons]; omega
end
end Lw
namespace Lw
open PySem RT Wb
variable {n : Int} {ss : List Sc} {a : Int}
/-! the sets that come -/
def subs : List Int → List (List Int)
  | [] => [[]]
  | x :: xs => subs xs ++ (subs xs).map (x :: ·)
theorem subs_len : ∀ xs : List Int, (subs xs).length = 2 ^ xs.length
  | [] => rfl
  | x :: xs => by rw [subs, List.length_append, List.length_map, subs_len xs, List.length_cons, Nat.pow_succ]; omega
theorem filter_subs (p : Int → Bool) : ∀ xs : List Int, xs.filter p ∈ subs xs
  | [] => by simp [subs]
  | x :: xs => by
    have ih := filter_subs p xs
    rw [subs, List.mem_append]
    cases h : p x with
    | true => rw [List.filter_cons_of_pos h]; exact .inr (List.mem_map.mpr ⟨_, ih, rfl⟩)
    | false => rw [List.filter_cons_of_neg (by rw [h]; exact Bool.false_ne_true)]; exact .inl ih
def PS (ss : List Sc) (l : List Int) : Prop := ∃ p : Int → Bool, l = (Ux ss.length).filter p
theorem ps_cl (tos : List Int) : PS ss (cl ss a tos) := ⟨_, rfl⟩
theorem ps_in {l : List Int} (h : PS ss l) : ∀ v ∈ l, Rg ss v := by
  obtain ⟨p, rfl⟩ := h
  exact fun v hv => Ux_mem.mp (List.mem_filter.mp hv).1
theorem ux_len : (Ux ss.length).length = ss.length := by unfold Ux; simp
theorem ps_len {l : List Int} (h : PS ss l) : l.length ≤ ss.length := by
  obtain ⟨p, rfl⟩ := h
  have := List.length_filter_le p (Ux ss.length)
  rwa [ux_len] at this
theorem ps_bound (h6 : ss.length ≤ 6) {L : List (List Int)} (h : L.Nodup) (hp : ∀ l ∈ L, PS ss l) : L.length ≤ 64 := by
  have h1 := nd_len (u := subs (Ux ss.length)) h fun l hl => by obtain ⟨p, rfl⟩ := hp l hl; exact filter_subs p _
  rw [subs_len, ux_len] at h1
  exact Nat.le_trans h1 (Nat.pow_le_pow_right (by omega : 2 > 0) h6)
theorem nks_ints : ∀ l : List Int, nks (l.map .int) = some (l.map .num)
  | [] => rfl
  | i :: l => by rw [List.map_cons, nks, nks_ints l]; rfl
theorem dep_nums : ∀ l : List Int, NestedKey.depthAll (l.map .num) = 0
  | [] => rfl
  | i :: l => by rw [List.map_cons, NestedKey.depthAll, dep_nums l]; rfl
theorem nk_tI (l : List Int) : nk (tI l) = some (.tup (l.map .num)) := by rw [tI, nk, nks_ints]; rfl
theorem keyT_tI (l : List Int) : keyT (tI l) = some (.tup (l.map .num)) := by
  have d : (NestedKey.tup (l.map .num)).depth ≤ 8 := by simp only [NestedKey.depth, dep_nums]; decide
  unfold keyT
  rw [nk_tI]
  simp only
  rw [if_pos ⟨d, rfl⟩]
theorem nums_inj : ∀ {l m : List Int}, l.map NestedKey.num = m.map NestedKey.num → l = m
  | [], [], _ => rfl
  | a :: l, b :: m, h => by
    rw [List.map_cons, List.map_cons, List.cons.injEq] at h
    obtain ⟨h1, h2⟩ := h
    cases h1
    rw [nums_inj h2]
  | [], _ :: _, h => by cases h
  | _ :: _, [], h => by cases h
theorem gr_ps (ss : List Sc) : Gr tI (fun l => .tup (l.map .num)) (PS ss) where
  kt l _ := keyT_tI l
  inj l m _ _ h := by
    simp only [NestedKey.tup.injEq] at h
    exact nums_inj h
theorem nx_ps {l : List Int} : ∀ p ∈ nx ss a l, PS ss p.2 := by
  intro p hp
  obtain ⟨e, _, rfl⟩ := List.mem_map.mp hp
  exact ps_cl _
theorem nx_len (k : Ok n ss) {l : List Int} (hl : PS ss l) : (nx ss a l).length ≤ 14 := by
  unfold nx
  rw [List.length_map, (srtE_perm _).length_eq, List.length_map]
  have h1 := (met_bd (a := a) k (ps_in hl)).1
  have h2 := ps_len hl
  have h3 := k.m
  omega
def a0 (ss : List Sc) (a : Int) : List Int := cl ss a [0]
theorem set_web_eq (k : Ok n ss) (h6 : ss.length ≤ 6) : ∃ th, Grn (a0 ss a) (nx ss a) (PS ss) th th.length ∧ m_set_web [eX n ss, .int a] = some (.tuple [.list (th.map tI), .list (th.map (rowA (nx ss a) eE th))]) := by
  have hm := k.m
  have hz : Rg ss 0 := ⟨by omega, by omega⟩
  obtain ⟨th, g, e⟩ := grown_eq (a0 := a0 ss a) (nx := nx ss a) (encB := eE) (m := mkG 4 1 [.int a, JD ss a, webD ss] (fCall m_sets_behind (aCons (fVar 3) (aCons (fVar 2) (aCons (fVar 0) (aCons (fVar 1) aNil)))))) (B := 64) (most := none) (gr_ps ss) (ps_cl _) (fun l hl => by
    have e := sets_behind_eq (a := a) k (ps_in hl) (by have := ps_len hl; omega)
    have c : fCall m_sets_behind (aCons (fVar 3) (aCons (fVar 2) (aCons (fVar 0) (aCons (fVar 1) aNil)))) (startG 4 [tI l] [.int a, JD ss a, webD ss]) row0 = some (.list ((nx ss a l).map stE), row0) := fCall_eq (ds := [webD ss, JD ss a, tI l, .int a]) (x1 := row0) rfl e
    simp only [mkG, List.length_cons, List.length_nil]
    rw [if_pos trivial, c]; rfl) (fun l hl => nx_ps) (fun l hl => by have := nx_len (a := a) k hl; omega) (fun L h1 h2 => ps_bound h6 h1 h2) (by omega) (fun j h => nomatch h) (b := .none) rfl
  refine ⟨th, g, mkF_rt (x := row0) rfl ?_⟩
  show b_set_web [.va (eX n ss), .va (.int a), .no, .no] row0 = _
  have c1 : sSet 3 (xVal (fCall m_talk_web (aCons (fVar 0) aNil))) [.va (eX n ss), .va (.int a), .no, .no] row0 = some (.nx [.va (eX n ss), .va (.int a), .no, .va (webD ss)], row0) := sV (fK (aC1 (vV rfl)) (talk_web_eq k))
  have c2 : sSet 2 (xVal (fCall m_joined_sets (aCons (fVar 3) (aCons (fVar 1) aNil)))) [.va (eX n ss), .va (.int a), .no, .va (webD ss)] row0 = some (.nx [.va (eX n ss), .va (.int a), .va (JD ss a), .va (webD ss)], row0) := sV (fK (aC2 (vV rfl) (vV rfl)) (joined_sets_eq k))
  unfold b_set_web
  rw [sSeq_nx c1, sSeq_nx c2]
  refine sR ?_
  have e1 : fBin gAt (fBor 2) (fC (.int 0)) [.va (eX n ss), .va (.int a), .va (JD ss a), .va (webD ss)] row0 = some (tI (a0 ss a), row0) := by
    have := J_at (a := a) hz
    rw [J_cl k hz] at this
    exact fB (vB rfl) rfl this
  rw [fLam, e1]
  simp only [capsD, List.getElem?_cons_succ, List.getElem?_cons_zero, fC]
  rw [e]
/-! one step more -/
section
variable {α β : Type} [DecidableEq α] {P : α → Prop} {nx : α → List (β × α)} {a0 : α}
theorem grn_step (hp : ∀ a, P a → ∀ p ∈ nx a, P p.2) {th : List α} {i : Nat} (g : Grn a0 nx P th i) {b : α} (ea : th[i]? = some b) : Grn a0 nx P (addA th ((nx b).map (·.2))) (i + 1) := by
  have c : i < th.length := (List.getElem?_eq_some_iff.mp ea).1
  have pa : P b := g.p b (List.mem_of_getElem? ea)
  have hpr := hp b pa
  have n2 := addA_nd ((nx b).map (·.2)) th g.nd
  have p2 : ∀ a ∈ addA th ((nx b).map (·.2)), P a := fun a ha => by
    rcases (addA_mem a _ _).mp ha with h | h
    · exact g.p a h
    · obtain ⟨q, hq, rfl⟩ := List.mem_map.mp h; exact hpr q hq
  have m2 : ∀ q ∈ nx b, q.2 ∈ addA th ((nx b).map (·.2)) := fun q hq => (addA_mem _ _ _).mpr (.inr (List.mem_map.mpr ⟨q, hq, rfl⟩))
  have pre := addA_pre ((nx b).map (·.2)) th
  refine ⟨n2, p2, ?_, ?_, ?_, by rw [itA, ← g.it, ea]⟩
  · obtain ⟨r, er⟩ := pre
    rw [← er]
    cases hth : th with
    | nil => rw [hth] at c; simp at c
    | cons b t => have := g.hd; rw [hth] at this; simpa using this
  · intro j a hj ha q hq
    by_cases cj : j < i
    · have : th[j]? = some a := by
        obtain ⟨r, er⟩ := pre
        rw [← er, List.getElem?_append_left (by omega)] at ha
        exact ha
      exact pre.subset (g.cl j a cj this q hq)
    · have : j = i := by omega
      subst this
      have : a = b := by
        obtain ⟨r, er⟩ := pre
        rw [← er, List.getElem?_append_left c, ea] at ha
        exact (Option.some.inj ha).symm
      subst this
      exact m2 q hq
  · intro Q q0 qs a ha
    rcases (addA_mem a _ _).mp ha with h | h
    · exact g.gen Q q0 qs a h
    · obtain ⟨q, hq, rfl⟩ := List.mem_map.mp h
      exact qs _ pa (g.gen Q q0 qs _ (List.mem_of_getElem? ea)) q hq
theorem itA_stop {k : Nat} (h : (itA a0 nx k).length = k) : ∀ j, itA a0 nx (k + j) = itA a0 nx k
  | 0 => rfl
  | j + 1 => by
    have ih := itA_stop h j
    rw [show k + (j + 1) = k + j + 1 by omega, itA, ih, List.getElem?_eq_none (by omega)]
theorem grn_uniq {th th' : List α} (g : Grn a0 nx P th th.length) (g' : Grn a0 nx P th' th'.length) : th = th' := by
  have e := g.it
  have e' := g'.it
  rcases Nat.le_total th.length th'.length with h | h
  · have := itA_stop (a0 := a0) (nx := nx) (k := th.length) (by rw [← e]) (th'.length - th.length)
    rw [show th.length + (th'.length - th.length) = th'.length by omega, ← e', ← e] at this
    exact this.symm
  · have := itA_stop (a0 := a0) (nx := nx) (k := th'.length) (by rw [← e']) (th.length - th'.length)
    rw [show th'.length + (th.length - th'.length) = th.length by omega, ← e', ← e] at this
    exact this
end
end Lw
namespace Lw
open PySem RT Wb
variable {n : Int} {ss : List Sc} {a : Int}
theorem eqv_ints : ∀ l m : List Int, PyData.eqvAll (pyAll (l.map D.int)) (pyAll (m.map D.int)) = decide (l = m)
  | [], [] => by simp [pyAll, PyData.eqvAll]
  | [], b :: m => by simp [pyAll, PyData.eqvAll]
  | a :: l, [] => by simp [pyAll, PyData.eqvAll]
  | a :: l, b :: m => by
    have ih := eqv_ints l m
    simp only [List.map_cons, pyAll, PyData.eqvAll, D.py, PyData.eqv, ih]
    rw [Bool.eq_iff_iff]
    simp
theorem eqD_tI (l m : List Int) : eqD (tI l) (tI m) = decide (l = m) := by
  have := eqv_ints l m
  simpa [eqD, D.py, PyData.eqv] using this
theorem pt_tIs {L : List (List Int)} (h : L.length ≤ 1000) (hl : ∀ l ∈ L, l.length ≤ 1000) : Pt 2 (.list (L.map tI)) := pt_list (k := 1) (by simpa using h) fun d hd => by
  obtain ⟨l, hl', rfl⟩ := List.mem_map.mp hd
  exact pt_ints (hl l hl')
theorem notin_tI {l : List Int} {L : List (List Int)} (h : L.length ≤ 1000) (hl : ∀ l ∈ L, l.length ≤ 1000) (h0 : l.length ≤ 1000) : gNotInA (tI l) (.list (L.map tI)) = some (.bool (!decide (l ∈ L))) := by
  have s1 := (pt_ints h0).sh (by omega)
  have s2 := (pt_tIs h hl).sh (by omega)
  have e : ((L.map tI).any fun z => eqD z (tI l)) = decide (l ∈ L) := by
    rw [Bool.eq_iff_iff, List.any_eq_true, decide_eq_true_eq]
    constructor
    · rintro ⟨d, hd, h⟩
      obtain ⟨m, hm, rfl⟩ := List.mem_map.mp hd
      rw [eqD_tI] at h
      exact of_decide_eq_true h ▸ hm
    · intro hm; exact ⟨_, List.mem_map.mpr ⟨l, hm, rfl⟩, by rw [eqD_tI]; simp⟩
  simp only [gNotInA, gNotIn, s1, s2, Bool.and_self, if_true, e]
section
variable {α : Type} [DecidableEq α]
def ixA (L : List α) (b : α) : Nat := L.idxOf b
theorem ixA_hd (b : α) (L : List α) : ixA (b :: L) b = 0 := List.idxOf_cons_self
theorem ixA_tl {b c : α} (h : c ≠ b) (L : List α) : ixA (c :: L) b = ixA L b + 1 := by
  unfold ixA
  rw [List.idxOf_cons, show (c == b) = false from beq_false_of_ne h]; rfl
theorem ixA_pre {L L' : List α} (h : L <+: L') {b : α} (m : b ∈ L) : ixA L' b = ixA L b := idx_pre h m
theorem addA_has {L : List α} {b : α} (c : b ∈ L) : addA L [b] = L := if_pos c
theorem addA_not {L : List α} {b : α} (c : b ∉ L) : addA L [b] = L ++ [b] := if_neg c
end
theorem idxD_tI (l : List Int) : ∀ {L : List (List Int)}, l ∈ L → idxD (tI l) (L.map tI) = some (ixA L l)
  | m :: L, h => by
    rw [List.map_cons, idxD, eqD_tI]
    by_cases c : m = l
    · subst c; rw [if_pos (by simp), ixA_hd]
    · have h' : l ∈ L := (List.mem_cons.mp h).resolve_left fun z => c z.symm
      rw [if_neg (by simpa using c), idxD_tI l h', ixA_tl c]; rfl
theorem fIndex_tI {fa fb : FE} {env : FEn} {x : FRow} {l : List Int} {L : List (List Int)} (ha : fa env x = some (.list (L.map tI), x)) (hb : fb env x = some (tI l, x)) (hm : l ∈ L) (h : L.length ≤ 1000) (hl : ∀ l ∈ L, l.length ≤ 1000) : fIndex fa fb env x = some (.int (ixA L l : Nat), x) := by
  have s1 := (pt_ints (hl l hm)).sh (by omega)
  have s2 := (pt_tIs h hl).sh (by omega)
  unfold fIndex
  refine fB ha hb ?_
  simp only [s1, s2, Bool.and_self, if_true, idxD_tI l hm]
/-! the law's cut -/
def e4 (th : List (List Int)) (p : E × List Int) : D := .tuple [.str (kS p.1.1), .int p.1.2.1, .int p.1.2.2, .int (ixA th p.2 : Nat)]
def dnB (ss : List Sc) (a : Int) (l : List Int) : Bool := !(l.filter fun v => (scAt ss v).isNone).isEmpty || (nx ss a l).isEmpty
def rowL (ss : List Sc) (a : Int) (th : List (List Int)) (l : List Int) : D := .tuple [.bool (dnB ss a l), .tuple ((nx ss a l).map (e4 th))]
def LCe (n : Int) (ss : List Sc) (a : Int) (th : List (List Int)) (rows : List D) (i : Int) (p5 p6 p7 p8 p9 : FSl) : FEn := [.va (eX n ss), .va (.int a), .ow (.lst (th.map tI)), .ow (.lst rows), .va (.int i), p5, p6, p7, p8, p9, .no]
def lcB : FS := sSeq (sIf (fTst (fBin gNotInA (fBor 8) (fBor 2))) (sApp 2 (fVar 8)) sNil)
    (sApp 5 (fBin gAdd (fBor 7) (fTup (aCons (fIndex (fBor 2) (fBor 8)) aNil))))
theorem lcB_eq (k : Ok n ss) (h6 : ss.length ≤ 6) {th : List (List Int)} (hn : th.Nodup) (hP : ∀ l ∈ th, PS ss l) {rows : List D} {i : Int} {dn : List D} (hd : dn.length ≤ 1000) (p6 p9 : FSl) {p : E × List Int} (hp : PS ss p.2) :
    lcB (LCe n ss a th rows i (.ow (.lst dn)) p6 (.va (eE p.1)) (.va (tI p.2)) p9) row0 = some (.nx (LCe n ss a (addA th [p.2]) rows i (.ow (.lst (dn ++ [e4 (addA th [p.2]) p]))) p6 (.va (eE p.1)) (.va (tI p.2)) p9), row0) := by
  have hb := ps_bound h6 hn hP
  have hl : ∀ l ∈ th, l.length ≤ 1000 := fun l h => by have := ps_len (hP l h); omega
  have h0 : p.2.length ≤ 1000 := by have := ps_len hp; omega
  have q := fB (gd := gNotInA) (vB (i := 8) rfl) (vO (i := 2) (d := .lst (th.map tI)) rfl) (notin_tI (l := p.2) (by omega) hl h0) (env := LCe n ss a th rows i (.ow (.lst dn)) p6 (.va (eE p.1)) (.va (tI p.2)) p9) (x := row0)
  have q1 : fTst (fBin gNotInA (fBor 8) (fBor 2)) (LCe n ss a th rows i (.ow (.lst dn)) p6 (.va (eE p.1)) (.va (tI p.2)) p9) row0 = some (!decide (p.2 ∈ th), row0) := by simp only [fTst, q]
  have c1 : sIf (fTst (fBin gNotInA (fBor 8) (fBor 2))) (sApp 2 (fVar 8)) sNil (LCe n ss a th rows i (.ow (.lst dn)) p6 (.va (eE p.1)) (.va (tI p.2)) p9) row0 = some (.nx (LCe n ss a (addA th [p.2]) rows i (.ow (.lst dn)) p6 (.va (eE p.1)) (.va (tI p.2)) p9), row0) := by
    by_cases c : p.2 ∈ th
    · rw [addA_has c]; simp only [sIf, q1, c, decide_true, Bool.not_true, sNil]
    · rw [addA_not c]; simp only [sIf, q1, c, decide_false, Bool.not_false]
      refine (sA (ds := th.map tI) (vV (i := 8) rfl) rfl (by rw [List.length_map]; omega)).trans ?_
      rw [show th.map tI ++ [tI p.2] = (th ++ [p.2]).map tI by simp]
      rfl
  unfold lcB
  rw [sSeq_nx c1]
  have hm : p.2 ∈ (addA th [p.2]) := by rw [addA_mem]; simp
  have hn2 : (addA th [p.2]).Nodup := addA_nd _ _ hn
  have hP2 : ∀ l ∈ (addA th [p.2]), PS ss l := fun l h => by
    rw [addA_mem, List.mem_singleton] at h
    rcases h with h | rfl
    · exact hP l h
    · exact hp
  generalize (addA th [p.2]) = th2 at hm hn2 hP2
  have hb2 := ps_bound h6 hn2 hP2
  have d1 := fIndex_tI (fa := fBor 2) (fb := fBor 8) (env := LCe n ss a th2 rows i (.ow (.lst dn)) p6 (.va (eE p.1)) (.va (tI p.2)) p9) (x := row0) (vO (d := .lst (th2.map tI)) rfl) (vB rfl) hm (by omega) fun l h => by have := ps_len (hP2 l h); omega
  have d2 : fBin gAdd (fBor 7) (fTup (aCons (fIndex (fBor 2) (fBor 8)) aNil)) (LCe n ss a th2 rows i (.ow (.lst dn)) p6 (.va (eE p.1)) (.va (tI p.2)) p9) row0 = some (e4 th2 p, row0) := fBin_cat (xs := [.str (kS p.1.1), .int p.1.2.1, .int p.1.2.2]) (vB rfl) (fTup_ok (aC1 d1) one_ml) (Nat.le_of_lt (nob_n (by simp only [List.length_cons, List.length_nil]; omega)))
  exact sA (ds := dn) d2 rfl (by omega)
theorem lcI (k : Ok n ss) (h6 : ss.length ≤ 6) {rows : List D} {i : Int} {p6 p9 : FSl} : ∀ (S : List (E × List Int)) (th : List (List Int)) (dn : List D) (p7 p8 : FSl), th.Nodup → (∀ l ∈ th, PS ss l) → (∀ p ∈ S, PS ss p.2) → dn.length + S.length ≤ 1000 →
    ∃ q7 q8, forL (gtTup 2 (gtCons (gtName 7) (gtCons (gtName 8) gtNil))) lcB (S.map stE) (LCe n ss a th rows i (.ow (.lst dn)) p6 p7 p8 p9) row0 = some (.nx (LCe n ss a (addA th (S.map (·.2))) rows i (.ow (.lst (dn ++ S.map (e4 (addA th (S.map (·.2))))))) p6 q7 q8 p9), row0)
  | [], th, dn, p7, p8, _, _, _, _ => ⟨p7, p8, by simp [forL, addA]⟩
  | p :: S, th, dn, p7, p8, hn, hP, hS, hl => by
    rw [List.length_cons] at hl
    have hp := hS p List.mem_cons_self
    have hn2 : (addA th [p.2]).Nodup := addA_nd _ _ hn
    have hP2 : ∀ l ∈ addA th [p.2], PS ss l := fun l h => by
      rw [addA_mem, List.mem_singleton] at h
      rcases h with h | rfl
      · exact hP l h
      · exact hp
    obtain ⟨q7, q8, e⟩ := lcI k h6 (rows := rows) (i := i) (p6 := p6) (p9 := p9) S (addA th [p.2]) (dn ++ [e4 (addA th [p.2]) p]) (.va (eE p.1)) (.va (tI p.2)) hn2 hP2 (fun q hq => hS q (List.mem_cons_of_mem _ hq)) (by rw [List.length_append, List.length_singleton]; omega)
    refine ⟨q7, q8, ?_⟩
    have c1 := lcB_eq (a := a) k h6 hn hP (rows := rows) (i := i) (dn := dn) (by omega) p6 p9 hp
    rw [List.map_cons, forL]
    rw [show gtTup 2 (gtCons (gtName 7) (gtCons (gtName 8) gtNil)) (stE p) (LCe n ss a th rows i (.ow (.lst dn)) p6 p7 p8 p9) = some (LCe n ss a th rows i (.ow (.lst dn)) p6 (.va (eE p.1)) (.va (tI p.2)) p9) from rfl]
    simp only [c1]
    have hth : addA th ((p :: S).map (·.2)) = addA (addA th [p.2]) (S.map (·.2)) := rfl
    rw [hth]
    have hi : e4 (addA th [p.2]) p = e4 (addA (addA th [p.2]) (S.map (·.2))) p := by
      unfold e4
      rw [ixA_pre (addA_pre (S.map (·.2)) (addA th [p.2])) ((addA_mem _ _ _).mpr (.inr (by simp)))]
    rw [List.append_assoc, List.singleton_append] at e
    rw [List.map_cons, ← hi]
    exact e
end Lw
namespace Lw
open PySem RT Wb
variable {n : Int} {ss : List Sc} {a : Int}
theorem eq_nilG {ds : List D} (h : shapedD (.list ds) = true) : gEq (.list ds) (.list []) = some (.bool ds.isEmpty) := by
  have h0 := sh_ints []
  rw [List.map_nil] at h0
  simp only [gEq, h, h0, Bool.and_self, if_true]
  cases ds <;> simp [eqD, D.py, pyAll, PyData.eqv, PyData.eqvAll]
theorem pt_e4 (th : List (List Int)) (p : E × List Int) : Pt 1 (e4 th p) := Or.inr ⟨_, Or.inl rfl, by simp, by
  intro d hd
  simp only [List.mem_cons, List.not_mem_nil, or_false] at hd
  rcases hd with rfl | rfl | rfl | rfl
  · exact Or.inr (Or.inr (Or.inl ⟨_, rfl, kS_ok _⟩))
  · exact P0i _
  · exact P0i _
  · exact P0i _⟩
theorem rowL_pre {th th2 : List (List Int)} (pre : th <+: th2) {l : List Int} (h : ∀ p ∈ nx ss a l, p.2 ∈ th) : rowL ss a th l = rowL ss a th2 l := by
  unfold rowL
  congr 4
  refine List.map_congr_left fun p hp => ?_
  unfold e4
  rw [ixA_pre pre (h p hp)]
theorem law_cut_eq (k : Ok n ss) (h6 : ss.length ≤ 6) {th : List (List Int)} (g : Grn (a0 ss a) (nx ss a) (PS ss) th th.length) : m_law_cut [eX n ss, .int a] = some (.tuple [.list (th.map tI), .tuple (th.map (rowL ss a th))]) := by
  have hm := k.m
  have hz : ∀ t ∈ [(0 : Int)], Rg ss t := fun t h => by rw [List.mem_singleton] at h; subst h; exact ⟨by omega, by omega⟩
  refine mkF_rt (x := row0) rfl ?_
  show b_law_cut [.va (eX n ss), .va (.int a), .no, .no, .no, .no, .no, .no, .no, .no, .no] row0 = _
  have c1 : sPars [2, 3, 4] (xsCons (xLst (aCons (fCall m_law_joined (aCons (fVar 0) (aCons (fLst (aCons (fC (.int 0)) aNil)) (aCons (fVar 1) aNil)))) aNil)) (xsCons (xLst aNil) (xsCons (xVal (fC (.int 0))) xsNil))) [.va (eX n ss), .va (.int a), .no, .no, .no, .no, .no, .no, .no, .no, .no] row0 = some (.nx (LCe n ss a [a0 ss a] [] 0 .no .no .no .no .no), row0) := by
    have d0 : fLst (aCons (fC (.int 0)) aNil) [.va (eX n ss), .va (.int a), .no, .no, .no, .no, .no, .no, .no, .no, .no] row0 = some (il [0], row0) := fLst_ok rfl one_ml
    have d1 : xLst (aCons (fCall m_law_joined (aCons (fVar 0) (aCons (fLst (aCons (fC (.int 0)) aNil)) (aCons (fVar 1) aNil)))) aNil) [.va (eX n ss), .va (.int a), .no, .no, .no, .no, .no, .no, .no, .no, .no] row0 = some (.ow (.lst [tI (a0 ss a)]), row0) :=
      xLst_ok (aC1 (fK (aC3 (vV rfl) d0 (vV rfl)) (law_joined_eq k hz (by simp)))) one_ml
    have d2 : xLst aNil [.va (eX n ss), .va (.int a), .no, .no, .no, .no, .no, .no, .no, .no, .no] row0 = some (.ow (.lst []), row0) := xLst_ok rfl nil_ml
    have d3 : xVal (fC (.int 0)) [.va (eX n ss), .va (.int a), .no, .no, .no, .no, .no, .no, .no, .no, .no] row0 = some (.va (.int 0), row0) := rfl
    simp only [sPars, xsCons, d1, d2, d3, xsNil]
    rfl
  obtain ⟨e2, h1, th', p5, p6, p7, p8, p9, h2, g'⟩ := whL_run (x := row0) (t := tAndF (fTst (fBin gLtX (fCall gLen (aCons (fBor 3) aNil)) (fCall gLen (aCons (fBor 2) aNil)))) (fTst (fBin gLtX (fBor 4) (fC (.int 70))))) (b := sSeq (sPars [4, 5] (xsCons (xVal (fBin gAdd (fBor 4) (fC (.int 1)))) (xsCons (xLst aNil) xsNil)))
    (sSeq (sSet 6 (xVal (fCall m_law_steps (aCons (fVar 0) (aCons (fBin gAt (fBor 2) (fCall gLen (aCons (fBor 3) aNil))) (aCons (fVar 1) aNil))))))
    (sSeq (sFor (fSeq (fVar 6)) (gtTup 2 (gtCons (gtName 7) (gtCons (gtName 8) gtNil))) lcB)
    (sSeq (sSet 9 (xVal (fOfX (xLc (fSeq (fBin gAt (fBor 2) (fCall gLen (aCons (fBor 3) aNil)))) (gtName 10) (fTst (fBin gIsN (fBin gAt (fBin gAt (fBor 0) (fC (.int 1))) (fBor 10)) (fC .none))) (fVar 10) [10]))))
    (sApp 3 (fTup (aCons (fOr (fBin gNe (fBor 9) (fLst aNil)) (fBin gEq (fBor 5) (fLst aNil))) (aCons (fCall gTupOf (aCons (fBor 5) aNil)) aNil))))))))
    (fun i env => ∃ th p5 p6 p7 p8 p9, env = LCe n ss a th ((th.take i).map (rowL ss a th)) (i : Nat) p5 p6 p7 p8 p9 ∧ Grn (a0 ss a) (nx ss a) (PS ss) th i ∧ i ≤ th.length)
    (fun env => ∃ th p5 p6 p7 p8 p9, env = LCe n ss a th (th.map (rowL ss a th)) (th.length : Nat) p5 p6 p7 p8 p9 ∧ Grn (a0 ss a) (nx ss a) (PS ss) th th.length) 64 (by
      rintro i _ ⟨th, p5, p6, p7, p8, p9, rfl, g, hi⟩
      have := ps_bound h6 g.nd g.p; omega) (by
      rintro i _ ⟨th, p5, p6, p7, p8, p9, rfl, g, hi⟩
      have hb := ps_bound h6 g.nd g.p
      have lr : ((th.take i).map (rowL ss a th)).length = i := by rw [List.length_map, List.length_take]; omega
      have t0 : ∀ q4 q5 q6 q7 q8 q9, fCall gLen (aCons (fBor 3) aNil) ([.va (eX n ss), .va (.int a), .ow (.lst (th.map tI)), .ow (.lst ((th.take i).map (rowL ss a th))), q4, q5, q6, q7, q8, q9, .no] : FEn) row0 = some (.int (i : Nat), row0) := fun q4 q5 q6 q7 q8 q9 => fK (aC1 (vO (d := .lst ((th.take i).map (rowL ss a th))) rfl)) (by simp only [OwD.d, gLen, lr])
      have t1 : fTst (fBin gLtX (fCall gLen (aCons (fBor 3) aNil)) (fCall gLen (aCons (fBor 2) aNil))) (LCe n ss a th ((th.take i).map (rowL ss a th)) (i : Nat) p5 p6 p7 p8 p9) row0 = some (decide (i < th.length), row0) := by
        have u : fCall gLen (aCons (fBor 2) aNil) (LCe n ss a th ((th.take i).map (rowL ss a th)) (i : Nat) p5 p6 p7 p8 p9) row0 = some (.int (th.length : Nat), row0) := fK (aC1 (vO (d := .lst (th.map tI)) rfl)) (by simp only [OwD.d, gLen, List.length_map])
        have z := fB (gd := gLtX) (r := .bool (decide (i < th.length))) (t0 _ _ _ _ _ _) u (by simp [gLtX, gLt, gOr, gI])
        simp only [fTst]
        erw [z]
      by_cases c : i < th.length
      · left
        have ea : th[i]? = some th[i] := List.getElem?_eq_getElem c
        generalize th[i] = l at ea
        have pl : PS ss l := g.p l (List.mem_of_getElem? ea)
        have hl := ps_in pl
        have hll := ps_len pl
        have hlt : (i : Int) < 70 := by omega
        constructor
        · simp only [tAndF, t1, c, decide_true]
          simp [fTst, fBin, fBor, fC, gLtX, gLt, gOr, gI, LCe, hlt]
        · have c2 : sPars [4, 5] (xsCons (xVal (fBin gAdd (fBor 4) (fC (.int 1)))) (xsCons (xLst aNil) xsNil)) (LCe n ss a th ((th.take i).map (rowL ss a th)) (i : Nat) p5 p6 p7 p8 p9) row0 = some (.nx (LCe n ss a th ((th.take i).map (rowL ss a th)) (i + 1 : Nat) (.ow (.lst [])) p6 p7 p8 p9), row0) := by
            have hml : (0 : Nat) ≤ maxLen := Nat.zero_le _
            simp [sPars, xsCons, xsNil, xVal, xLst, aNil, fBin, fBor, fC, gAdd, gOr, gI, hml, setsE, LCe]
          have at1 : gAt (.list (th.map tI)) (.int (i : Nat)) = some (tI l) := atI_nat (by rw [List.getElem?_map, ea]; rfl)
          have c3 : sSet 6 (xVal (fCall m_law_steps (aCons (fVar 0) (aCons (fBin gAt (fBor 2) (fCall gLen (aCons (fBor 3) aNil))) (aCons (fVar 1) aNil))))) (LCe n ss a th ((th.take i).map (rowL ss a th)) (i + 1 : Nat) (.ow (.lst [])) p6 p7 p8 p9) row0 = some (.nx (LCe n ss a th ((th.take i).map (rowL ss a th)) (i + 1 : Nat) (.ow (.lst [])) (.va (.list ((nx ss a l).map stE))) p7 p8 p9), row0) :=
            sV (fK (aC3 (vV rfl) (fB (vO (d := .lst (th.map tI)) rfl) (t0 _ _ _ _ _ _) at1) (vV rfl)) (law_steps_eq k hl (by omega)))
          have hnx := nx_len (a := a) k pl
          obtain ⟨q7, q8, e⟩ := lcI (a := a) (n := n) k h6 (rows := (th.take i).map (rowL ss a th)) (i := (i + 1 : Nat)) (p6 := .va (.list ((nx ss a l).map stE))) (p9 := p9) (nx ss a l) th [] p7 p8 g.nd g.p (fun p hp => nx_ps p hp) (by simp; omega)
          have pre := addA_pre ((nx ss a l).map (·.2)) th
          have g2 := grn_step (fun l _ => nx_ps) g ea
          have hrow : ((th.take i).map (rowL ss a th)) = ((th.take i).map (rowL ss a (addA th ((nx ss a l).map (·.2))))) := List.map_congr_left fun m hm => by
            obtain ⟨j, hj, ej⟩ := List.mem_take_iff_getElem.mp hm
            have hja : th[j]? = some m := by rw [List.getElem?_eq_getElem (by omega), ej]
            exact rowL_pre pre (g.cl j m (by omega) hja)
          have c4 : fSeq (fVar 6) (LCe n ss a th ((th.take i).map (rowL ss a th)) (i + 1 : Nat) (.ow (.lst [])) (.va (.list ((nx ss a l).map stE))) p7 p8 p9) row0 = some ((nx ss a l).map stE, row0) := sqL (vV rfl)
          rw [List.nil_append] at e
          have hat2 : (addA th ((nx ss a l).map (·.2)))[i]? = some l := by
            obtain ⟨r, er⟩ := pre
            rw [← er, List.getElem?_append_left c, ea]
          have htk : (addA th ((nx ss a l).map (·.2))).take (i + 1) = th.take i ++ [l] := by
            obtain ⟨r, er⟩ := pre
            rw [← er, List.take_append_of_le_length (by omega), List.take_succ, ea]; rfl
          have hle2 := pre.length_le
          have hb2 := ps_bound h6 g2.nd g2.p
          rw [hrow] at c2 c3 c4 e lr
          rw [hrow]
          generalize addA th ((nx ss a l).map (·.2)) = th2 at *
          have t2 : ∀ q4 q5 q6 q7 q8 q9, fCall gLen (aCons (fBor 3) aNil) ([.va (eX n ss), .va (.int a), .ow (.lst (th2.map tI)), .ow (.lst ((th.take i).map (rowL ss a th2))), q4, q5, q6, q7, q8, q9, .no] : FEn) row0 = some (.int (i : Nat), row0) := fun q4 q5 q6 q7 q8 q9 => fK (aC1 (vO (d := .lst ((th.take i).map (rowL ss a th2))) rfl)) (by simp only [OwD.d, gLen, lr])
          have at2 : gAt (.list (th2.map tI)) (.int (i : Nat)) = some (tI l) := atI_nat (by rw [List.getElem?_map, hat2]; rfl)
          have c5 : sSet 9 (xVal (fOfX (xLc (fSeq (fBin gAt (fBor 2) (fCall gLen (aCons (fBor 3) aNil)))) (gtName 10) (fTst (fBin gIsN (fBin gAt (fBin gAt (fBor 0) (fC (.int 1))) (fBor 10)) (fC .none))) (fVar 10) [10]))) (LCe n ss a th2 ((th.take i).map (rowL ss a th2)) (i + 1 : Nat) (.ow (.lst ((nx ss a l).map (e4 th2)))) (.va (.list ((nx ss a l).map stE))) q7 q8 p9) row0 = some (.nx (LCe n ss a th2 ((th.take i).map (rowL ss a th2)) (i + 1 : Nat) (.ow (.lst ((nx ss a l).map (e4 th2)))) (.va (.list ((nx ss a l).map stE))) q7 q8 (.va (il (l.filter fun v => (scAt ss v).isNone)))), row0) := by
            refine sV (lc_eq (ds := l.map .int) (sqT (fB (vO (d := .lst (th2.map tI)) rfl) (t2 _ _ _ _ _ _) at2)) (compL_gen D.int (fun v => (scAt ss v).isNone) D.int l fun v hv => ⟨_, rfl, ?_, fun _ => rfl⟩) (nob_n (by rw [List.length_map]; have := List.length_filter_le (fun v => (scAt ss v).isNone) l; omega)))
            have hv := hl v hv
            have z := fB (gd := gIsN) (fb := fC .none) (fB (gd := gAt) (fb := fBor 10) (fB (gd := gAt) (fb := fC (.int 1)) (vB (i := 0) rfl) rfl (eX_1 n ss)) (vB rfl) (eX_at (n := n) hv.1 hv.2)) rfl (none_eS _) (env := [.va (eX n ss), .va (.int a), .ow (.lst (th2.map tI)), .ow (.lst ((th.take i).map (rowL ss a th2))), .va (.int (i + 1 : Nat)), .ow (.lst ((nx ss a l).map (e4 th2))), .va (.list ((nx ss a l).map stE)), q7, q8, p9, .va (.int v)]) (x := row0)
            simp only [fTst]
            erw [z]
          refine ⟨_, ?_, th2, .ow (.lst ((nx ss a l).map (e4 th2))), .va (.list ((nx ss a l).map stE)), q7, q8, .va (il (l.filter fun v => (scAt ss v).isNone)), rfl, g2, by omega⟩
          rw [sSeq_nx c2, sSeq_nx c3]
          refine (sSeq_nx (for_eq c4 e)).trans ?_
          rw [sSeq_nx c5]
          have s5 : shapedD (.list ((nx ss a l).map (e4 th2))) = true := (pt_list (k := 1) (by rw [List.length_map]; omega) fun d hd => by
            obtain ⟨p, _, rfl⟩ := List.mem_map.mp hd
            exact pt_e4 th2 p).sh (by omega)
          have d1 : fBin gNe (fBor 9) (fLst aNil) (LCe n ss a th2 ((th.take i).map (rowL ss a th2)) (i + 1 : Nat) (.ow (.lst ((nx ss a l).map (e4 th2)))) (.va (.list ((nx ss a l).map stE))) q7 q8 (.va (il (l.filter fun v => (scAt ss v).isNone)))) row0 = some (.bool (!(l.filter fun v => (scAt ss v).isNone).isEmpty), row0) := fB (vB rfl) (fLst_ok rfl nil_ml) (ne_nil _)
          have d2 : fBin gEq (fBor 5) (fLst aNil) (LCe n ss a th2 ((th.take i).map (rowL ss a th2)) (i + 1 : Nat) (.ow (.lst ((nx ss a l).map (e4 th2)))) (.va (.list ((nx ss a l).map stE))) q7 q8 (.va (il (l.filter fun v => (scAt ss v).isNone)))) row0 = some (.bool (nx ss a l).isEmpty, row0) := by
            refine fB (vO (d := .lst ((nx ss a l).map (e4 th2))) rfl) (fLst_ok rfl nil_ml) ?_
            simp only [OwD.d]
            rw [eq_nilG s5]
            cases nx ss a l <;> rfl
          have d3 := fOr_eq d1 d2
          have d4 : fCall gTupOf (aCons (fBor 5) aNil) (LCe n ss a th2 ((th.take i).map (rowL ss a th2)) (i + 1 : Nat) (.ow (.lst ((nx ss a l).map (e4 th2)))) (.va (.list ((nx ss a l).map stE))) q7 q8 (.va (il (l.filter fun v => (scAt ss v).isNone)))) row0 = some (.tuple ((nx ss a l).map (e4 th2)), row0) := fK (aC1 (vO (d := .lst ((nx ss a l).map (e4 th2))) rfl)) rfl
          have d5 := fTup_ok (aC2 d3 d4) two_ml
          refine (sA (ds := (th.take i).map (rowL ss a th2)) d5 rfl (by rw [lr]; omega)).trans ?_
          rw [htk, List.map_append]
          rfl
      · right
        have hi2 : i = th.length := by omega
        refine ⟨by simp only [tAndF, t1, c, decide_false], th, p5, p6, p7, p8, p9, ?_, hi2 ▸ g⟩
        subst hi2
        rw [List.take_length]) 1000 0 (LCe n ss a [a0 ss a] [] 0 .no .no .no .no .no) ⟨[a0 ss a], .no, .no, .no, .no, .no, rfl, ⟨by simp, fun b h => by rw [List.mem_singleton] at h; exact h ▸ ps_cl _, rfl, fun j b h => by omega, fun Q q0 _ b h => by rw [List.mem_singleton] at h; exact h ▸ q0, rfl⟩, by omega⟩ (by omega)
  subst h2
  have := grn_uniq g g'
  subst this
  have hb := ps_bound h6 g.nd g.p
  unfold b_law_cut
  rw [sSeq_nx c1]
  refine (sSeq_nx h1).trans ?_
  show sRet _ ([.va (eX n ss), .va (.int a), .va (.list (th.map tI)), .ow (.lst (th.map (rowL ss a th))), .va (.int (th.length : Nat)), p5, p6, p7, p8, p9, .no] : FEn) row0 = _
  exact sR (fTup_ok (aC2 (vV rfl) (fK (aC1 (vO (d := .lst (th.map (rowL ss a th))) rfl)) rfl)) two_ml)
end Lw
namespace Lw
open PySem RT
theorem taken_ok {x : FRow} {many : Int} (ha : 0 ≤ x.a) (hm : 0 < many) (hs : many < 1073741824) : ∃ r x', m_law_taken [.int many] x = some (.int r, x') ∧ 0 ≤ r ∧ r < many ∧ 0 ≤ x'.a := by
  obtain ⟨ns, a, b, c⟩ := x
  simp only at ha
  have hmod : ∀ z : Int, 0 ≤ z % many ∧ z % many < many := fun z => ⟨Int.emod_nonneg _ (by omega), Int.emod_lt_of_pos _ hm⟩
  simp only [m_law_taken, mkR, startE, b_law_taken]
  by_cases hc : 0 < c
  · refine ⟨c % many, ⟨ns, a, b, c / many⟩, ?_, (hmod c).1, (hmod c).2, ha⟩
    simp [sSeq, sIf, sSet, sRow, sRet, sNil, sAug, fTst, fBin, fRow, fC, fCall, fRowLen, fRowAt, fVar, fBor, xVal, aCons, aNil, gI, gInt, gOr, gAdd, gMul, gAddI, gMulI, pMod, pDiv, pMul, hc, hm, hs]
  · by_cases hl : (ns.length : Int) < a + 1
    · refine ⟨((b * 48271 + 11) % 2147483647 / 7) % many, ⟨ns, a + 1, (b * 48271 + 11) % 2147483647, c⟩, ?_, (hmod _).1, (hmod _).2, by simp only; omega⟩
      simp [sSeq, sIf, sSet, sRow, sRet, sNil, sAug, fTst, fBin, fRow, fC, fCall, fRowLen, fRowAt, fVar, fBor, xVal, aCons, aNil, gI, gInt, gOr, gAdd, gMul, gAddI, gMulI, pMod, pDiv, pMul, hc, hm, hs, hl]
    · have hlt : a.toNat < ns.length := by omega
      have hat : L2.atI ns a = some ns[a.toNat] := atI_int ha (List.getElem?_eq_getElem hlt)
      generalize ns[a.toNat] = f at hat
      by_cases hf : (1000000000000000000 : Int) ≤ f
      · refine ⟨f % many, ⟨ns, a + 1, (b * 48271 + f + 11) % 2147483647, f / many⟩, ?_, (hmod _).1, (hmod _).2, by simp only; omega⟩
        simp [sSeq, sIf, sSet, sRow, sRet, sNil, sAug, fTst, fBin, fRow, fC, fCall, fRowLen, fRowAt, fVar, fBor, xVal, aCons, aNil, gI, gInt, gOr, gAdd, gMul, gAddI, gMulI, pMod, pDiv, pMul, pPow, hc, hm, hs, hl, hat, hf]
      · refine ⟨f % many, ⟨ns, a + 1, (b * 48271 + f + 11) % 2147483647, c⟩, ?_, (hmod _).1, (hmod _).2, by simp only; omega⟩
        simp [sSeq, sIf, sSet, sRow, sRet, sNil, sAug, fTst, fBin, fRow, fC, fCall, fRowLen, fRowAt, fVar, fBor, xVal, aCons, aNil, gI, gInt, gOr, gAdd, gMul, gAddI, gMulI, pMod, pDiv, pMul, pPow, hc, hm, hs, hl, hat, hf]
def kB (b : Br) : D := .tuple [.int b.1, .int b.2.1]
def hd (acc : List Br) : List (D × D) := acc.map fun b => (kB b, .int b.2.2)
theorem kB_key (b : Br) : dKeyT (kB b) = some [.inl b.1, .inl b.2.1] := by simp [kB, dKeyT, dKeys, dKey]
theorem put0 (b : Br) : putD dKeyT (hd []) (kB b) [.inl b.1, .inl b.2.1] (.int b.2.2) = hd [b] := by
  simp [putD, hd]
theorem put1 (a b : Br) : ∃ acc : List Br, putD dKeyT (hd [a]) (kB b) [.inl b.1, .inl b.2.1] (.int b.2.2) = hd acc ∧ ((acc = [(a.1, a.2.1, b.2.2)] ∧ a.1 = b.1 ∧ a.2.1 = b.2.1) ∨ (acc = [a, b] ∧ ¬ (a.1 = b.1 ∧ a.2.1 = b.2.1))) := by
  by_cases c : a.1 = b.1 ∧ a.2.1 = b.2.1
  · refine ⟨[(a.1, a.2.1, b.2.2)], ?_, Or.inl ⟨rfl, c⟩⟩
    simp [putD, hd, kB, dKeyT, dKeys, dKey, c.1, c.2]
  · refine ⟨[a, b], ?_, Or.inr ⟨rfl, c⟩⟩
    have : ¬ (a.1 = b.1 ∧ a.2.1 = b.2.1) := c
    simp [putD, hd, kB, dKeyT, dKeys, dKey, this]
structure Dr (n : Int) (m : Nat) (s : Int) (q : Int → Prop) (b : Br) : Prop extends OkB n m s b where
  w2 : b.2.1 < 2
  qt : q b.2.2
abbrev bTurn : FS := sSeq (sSet 8 (xVal (fBin gModI (fCall gInt (aCons (fBin gAdd (fBin gAdd (fBor 5) (fC (.int 1))) (fCallR 0 m_law_taken (aCons (fBin gSubI (fBor 1) (fC (.int 1))) aNil))) aNil)) (fBor 1))))
    (sSeq (sSet 9 (xVal (fIf (fTru (fBor 4)) (fCallR 0 m_law_taken (aCons (fBin gAdd (fBor 3) (fC (.int 1))) aNil)) (fBin gAdd (fBin gAdd (fBor 2) (fC (.int 1))) (fCallR 0 m_law_taken (aCons (fBin gSubI (fBor 3) (fBor 2)) aNil))))))
    (sDPut 6 (fTup (aCons (fVar 8) (aCons (fCallR 0 m_law_taken (aCons (fC (.int 2)) aNil)) aNil))) (fVar 9)))
theorem other_mod {n s r : Int} (hn : 2 ≤ n ∧ n ≤ 4) (hs : 0 ≤ s ∧ s < n) (hr : 0 ≤ r ∧ r < n - 1) : 0 ≤ (s + 1 + r) % n ∧ (s + 1 + r) % n < n ∧ (s + 1 + r) % n ≠ s := by
  have : n = 2 ∨ n = 3 ∨ n = 4 := by omega
  rcases this with rfl | rfl | rfl <;> omega
def scE (n at' size : Int) (lp : Bool) (s : Int) (acc : List Br) (p q r : FSl) : FEn := [.rw, .va (.int n), .va (.int at'), .va (.int size), .va (.bool lp), .va (.int s), .ow (.dt (hd acc)), p, q, r, .no]
theorem turn_ok {n at' s : Int} {size : Nat} {lp : Bool} (hn : 2 ≤ n ∧ n ≤ 4) (hs : 0 ≤ s ∧ s < n) (hz : 1 ≤ size ∧ size ≤ 6) (ha : 0 ≤ at' ∧ at' < size) (acc : List Br) (hacc : acc.length ≤ 2) (p q r : FSl) {x : FRow} (hx : 0 ≤ x.a) :
    ∃ (b : Br) (x' : FRow) (q' r' : FSl), bTurn (scE n at' size lp s acc p q r) x = some (.nx [.rw, .va (.int n), .va (.int at'), .va (.int size), .va (.bool lp), .va (.int s), .ow (.dt (putD dKeyT (hd acc) (kB b) [.inl b.1, .inl b.2.1] (.int b.2.2))), p, q', r', .no], x') ∧ 0 ≤ x'.a ∧ Dr n (size + 1) s (fun t => lp = false → at' < t) b := by
  obtain ⟨r1, x1, h1, h1a, h1b, hx1⟩ := taken_ok (many := n - 1) hx (by omega) (by omega)
  have ho := other_mod hn hs ⟨h1a, h1b⟩
  have c1 : sSet 8 (xVal (fBin gModI (fCall gInt (aCons (fBin gAdd (fBin gAdd (fBor 5) (fC (.int 1))) (fCallR 0 m_law_taken (aCons (fBin gSubI (fBor 1) (fC (.int 1))) aNil))) aNil)) (fBor 1))) (scE n at' size lp s acc p q r) x = some (.nx (scE n at' size lp s acc p (.va (.int ((s + 1 + r1) % n))) r), x1) := by
    have : 0 < n := by omega
    simp [sSet, xVal, fBin, fCall, aCons, aNil, fBor, fC, fCallR, gAdd, gOr, gI, gInt, pMod, scE, h1, this]
  have ht : ∃ (t : Int) (x2 : FRow), sSet 9 (xVal (fIf (fTru (fBor 4)) (fCallR 0 m_law_taken (aCons (fBin gAdd (fBor 3) (fC (.int 1))) aNil)) (fBin gAdd (fBin gAdd (fBor 2) (fC (.int 1))) (fCallR 0 m_law_taken (aCons (fBin gSubI (fBor 3) (fBor 2)) aNil))))) (scE n at' size lp s acc p (.va (.int ((s + 1 + r1) % n))) r) x1 = some (.nx (scE n at' size lp s acc p (.va (.int ((s + 1 + r1) % n))) (.va (.int t))), x2) ∧ ((0 ≤ t ∧ t < ((size + 1 : Nat) : Int)) ∧ (lp = false → at' < t)) ∧ 0 ≤ x2.a := by
    cases lp with
    | true =>
      obtain ⟨t, x2, h2, h2a, h2b, hx2⟩ := taken_ok (many := (size : Int) + 1) hx1 (by omega) (by omega)
      refine ⟨t, x2, ?_, ⟨⟨h2a, by omega⟩, fun h => nomatch h⟩, hx2⟩
      simp [sSet, xVal, fIf, fTru, truD, fBin, aCons, aNil, fBor, fC, fCallR, gAdd, gOr, gI, scE, h2]
    | false =>
      obtain ⟨t, x2, h2, h2a, h2b, hx2⟩ := taken_ok (many := (size : Int) - at') hx1 (by omega) (by omega)
      refine ⟨at' + 1 + t, x2, ?_, ⟨⟨by omega, by omega⟩, fun _ => by omega⟩, hx2⟩
      simp [sSet, xVal, fIf, fTru, truD, fBin, aCons, aNil, fBor, fC, fCallR, gAdd, gOr, gI, scE, h2]
  obtain ⟨t, x2, c2, ht, hx2⟩ := ht
  obtain ⟨w, x3, h3, h3a, h3b, hx3⟩ := taken_ok (many := 2) hx2 (by omega) (by omega)
  refine ⟨((s + 1 + r1) % n, w, t), x3, .va (.int ((s + 1 + r1) % n)), .va (.int t), ?_, hx3, ⟨⟨⟨ho.1, ho.2.1⟩, ho.2.2, ⟨h3a, by simp only; omega⟩, ht.1⟩, h3b, ht.2⟩⟩
  have hle : (hd acc).length < maxLen := by simp only [hd, List.length_map, maxLen]; omega
  have hk := kB_key ((s + 1 + r1) % n, w, t)
  simp only [kB] at hk
  unfold bTurn
  rw [sSeq_nx c1, sSeq_nx c2]
  simp only [maxLen] at hle
  simp [sDPut, fTup, aCons, aNil, fVar, fC, fCallR, scE, h3, hk, hle, kB, maxLen]
theorem Dr.tup {n : Int} {m : Nat} {s : Int} {q : Int → Prop} {b : Br} (hn : n ≤ 4) (hm : m ≤ 8) (h : Dr n m s q b) : okTup 3 [b.1, b.2.1, b.2.2] = true := by
  have h1 := h.h; have h2 := h.w; have h3 := h.t; have h4 := h.w2
  simp only [okTup, List.length_cons, List.length_nil, List.all_cons, List.all_nil, Bool.and_true, Bool.and_eq_true, decide_eq_true_eq]
  refine ⟨trivial, ⟨h1.1, by omega⟩, ⟨h2.1, by omega⟩, ⟨h3.1, by omega⟩⟩
theorem sortX_of {l : List D} {d : D} (h : gSort l = some d) : gSortX l = some d := by simp only [gSortX, cOr, h]
theorem sortB1 {n : Int} {m : Nat} {s : Int} {q : Int → Prop} {a : Br} (hn : n ≤ 4) (hm : m ≤ 8) (h : Dr n m s q a) : gSort [.list [eB a]] = some (.list [eB a]) := by
  have h1 := h.tup hn hm
  simp [gSort, cOr, gSortI, intsD, gSortT, eB, tupsD, h1, sortT, insT, tupD]
theorem code3 (b : Br) : cdT [b.1, b.2.1, b.2.2] = b.1 * 4096 + b.2.1 * 64 + b.2.2 := by
  simp [cdT, TS.code]; omega
theorem sortB2 {n : Int} {m : Nat} {s : Int} {q : Int → Prop} {a b : Br} (hn : n ≤ 4) (hm : m ≤ 8) (h : Dr n m s q a) (h' : Dr n m s q b) (hk : ¬ (a.1 = b.1 ∧ a.2.1 = b.2.1)) : ∃ bs : List Br, gSort [.list [eB a, eB b]] = some (.list (bs.map eB)) ∧ Two bs ∧ ∀ c ∈ bs, c = a ∨ c = b := by
  have h1 := h.tup hn hm
  have h2 := h'.tup hn hm
  have k1 := code3 a
  have k2 := code3 b
  have ha := h.h; have hb := h.w; have hc := h.t
  have ha' := h'.h; have hb' := h'.w; have hc' := h'.t
  by_cases c : cdT [a.1, a.2.1, a.2.2] ≤ cdT [b.1, b.2.1, b.2.2]
  · refine ⟨[a, b], ?_, Or.inr ⟨a, b, rfl, ?_⟩, by simp⟩
    · simp only [gSort, cOr, gSortI, intsD, gSortT, eB, tupsD, List.length_cons, List.length_nil, h1, h2, sortT, insT, if_pos c]
      simp [eB, tupD, h1, h2, sortT, insT, c]
    · rw [k1, k2] at c
      simp only [HT.lexLt]
      split
      · split
        · omega
        · simp only [decide_eq_true_eq]; omega
      · simp only [decide_eq_true_eq]; omega
  · refine ⟨[b, a], ?_, Or.inr ⟨b, a, rfl, ?_⟩, by simp⟩
    · simp only [gSort, cOr, gSortI, intsD, gSortT, eB, tupsD, List.length_cons, List.length_nil, h1, h2, sortT, insT, if_neg c]
      simp [eB, tupD, h1, h2, sortT, insT, c]
    · rw [k1, k2] at c
      simp only [HT.lexLt]
      split
      · split
        · omega
        · simp only [decide_eq_true_eq]; omega
      · simp only [decide_eq_true_eq]; omega
theorem Dr.ok {n : Int} {m : Nat} {s : Int} {q : Int → Prop} {b : Br} (h : Dr n m s q b) : OkB n m s b := h.toOkB
def Acc (n : Int) (m : Nat) (s : Int) (q : Int → Prop) (acc : List Br) : Prop := (∃ a, acc = [a] ∧ Dr n m s q a) ∨ ∃ a b, acc = [a, b] ∧ Dr n m s q a ∧ Dr n m s q b ∧ ¬ (a.1 = b.1 ∧ a.2.1 = b.2.1)
theorem scene_lc {n at' size s : Int} {lp : Bool} {m : Nat} {Q : Int → Prop} {acc : List Br} (h : Acc n m s Q acc) (p q r : FSl) (x : FRow) :
    fOfX (xLc (fSeq (fCall gListOf (aCons (fBor 6) aNil))) (gtName 10) tYesF (fBin gAdd (fBor 10) (fTup (aCons (fBin gAt (fBor 6) (fBor 10)) aNil))) [10]) (scE n at' size lp s acc p q r) x = some (.list (acc.map eB), x) := by
  have hval : ∀ b ∈ acc, valD dKeyT (hd acc) [.inl b.1, .inl b.2.1] = some (.int b.2.2) := by
    rcases h with ⟨a, rfl, _⟩ | ⟨a, b, rfl, _, _, hk⟩
    · intro b hb
      simp only [List.mem_singleton] at hb
      subst hb
      simp [valD, hd, kB, dKeyT, dKeys, dKey]
    · intro c hc
      simp only [List.mem_cons, List.not_mem_nil, or_false] at hc
      rcases hc with rfl | rfl
      · simp [valD, hd, kB, dKeyT, dKeys, dKey]
      · have hk' : ¬ (a.1 = c.1 ∧ a.2.1 = c.2.1) := hk
        simp [valD, hd, kB, dKeyT, dKeys, dKey, List.find?_cons, hk']
  have hl : acc.length ≤ 2 := by rcases h with ⟨a, rfl, _⟩ | ⟨a, b, rfl, _⟩ <;> simp
  refine lc_eq (ds := acc.map kB) ?_ (compL_map kB eB acc fun b hb => ⟨_, rfl, rfl, ?_⟩) ?_
  · simp [fSeq, fCall, aCons, aNil, fBor, scE, OwD.d, gListOf, hd]
  · have hv := hval b hb
    have hk := kB_key b
    simp only [kB] at hk
    simp [fBin, fBor, fTup, aCons, aNil, scE, wipeE, gtName, OwD.d, gAt, gDAt, gDGet, kB, hk, hv, gAdd, gOr, gI, gCatT, maxLen, eB]
  · simp only [List.length_map, maxLen]; omega
theorem scene_ok {n at' : Int} {size : Nat} {lp : Bool} (hn : 2 ≤ n ∧ n ≤ 4) (hz : 1 ≤ size ∧ size ≤ 6) (ha : 0 ≤ at' ∧ at' < size) {x : FRow} (hx : 0 ≤ x.a) :
    ∃ s bs x', m_law_scene [.int n, .int at', .int size, .bool lp] x = some (eS (some (s, bs)), x') ∧ 0 ≤ x'.a ∧ (0 ≤ s ∧ s < n) ∧ Two bs ∧ ∀ b ∈ bs, OkB n (size + 1) s b ∧ (lp = false → at' < b.2.2) := by
  obtain ⟨s, x1, h1, h1a, h1b, hx1⟩ := taken_ok (many := n) hx (by omega) (by omega)
  obtain ⟨t2, x2, h2, h2a, h2b, hx2⟩ := taken_ok (many := 2) hx1 (by omega) (by omega)
  have hs : 0 ≤ s ∧ s < n := ⟨h1a, h1b⟩
  obtain ⟨b1, x3, q1, r1, e1, hx3, d1⟩ := turn_ok (lp := lp) (x := x2) hn hs hz ha [] (by simp) (.va (.int 0)) .no .no hx2
  rw [put0] at e1
  have hloop : ∃ acc x' p q r, forL (gtName 7) bTurn (rgD 0 (1 + t2).toNat) (scE n at' size lp s [] .no .no .no) x2 = some (.nx (scE n at' size lp s acc p q r), x') ∧ 0 ≤ x'.a ∧ Acc n (size + 1) s (fun t => lp = false → at' < t) acc := by
    have ht : t2 = 0 ∨ t2 = 1 := by omega
    rcases ht with rfl | rfl
    · refine ⟨[b1], x3, .va (.int 0), q1, r1, ?_, hx3, Or.inl ⟨b1, rfl, d1⟩⟩
      rw [show rgD 0 ((1 : Int) + 0).toNat = [.int 0] from rfl, forL]
      simp only [gtName]
      rw [show (scE n at' size lp s [] .no .no .no).set 7 (.va (.int 0)) = scE n at' size lp s [] (.va (.int 0)) .no .no from rfl, e1]
      rfl
    · obtain ⟨b2, x4, q2, r2, e2, hx4, d2⟩ := turn_ok (lp := lp) (x := x3) hn hs hz ha [b1] (by simp) (.va (.int 1)) q1 r1 hx3
      obtain ⟨acc, hp, hacc⟩ := put1 b1 b2
      rw [hp] at e2
      refine ⟨acc, x4, .va (.int 1), q2, r2, ?_, hx4, ?_⟩
      · rw [show rgD 0 ((1 : Int) + 1).toNat = [.int 0, .int 1] from rfl, forL]
        simp only [gtName]
        rw [show (scE n at' size lp s [] .no .no .no).set 7 (.va (.int 0)) = scE n at' size lp s [] (.va (.int 0)) .no .no from rfl, e1]
        simp only [forL, gtName]
        rw [show ([FSl.rw, .va (.int n), .va (.int at'), .va (.int size), .va (.bool lp), .va (.int s), .ow (.dt (hd [b1])), .va (.int 0), q1, r1, .no] : FEn).set 7 (.va (.int 1)) = scE n at' size lp s [b1] (.va (.int 1)) q1 r1 from rfl, e2]
        rfl
      · rcases hacc with ⟨rfl, k1, k2⟩ | ⟨rfl, hk⟩
        · exact Or.inl ⟨_, rfl, ⟨⟨d1.h, d1.ne, d1.w, d2.t⟩, d1.w2, d2.qt⟩⟩
        · exact Or.inr ⟨_, _, rfl, d1, d2, hk⟩
  obtain ⟨acc, x', p, q, r, e, hx', hacc⟩ := hloop
  have hsort : ∃ bs : List Br, gSortX [.list (acc.map eB)] = some (.list (bs.map eB)) ∧ Two bs ∧ ∀ b ∈ bs, OkB n (size + 1) s b ∧ (lp = false → at' < b.2.2) := by
    rcases hacc with ⟨a, rfl, ha⟩ | ⟨a, b, rfl, ha, hb, hk⟩
    · exact ⟨[a], sortX_of (sortB1 hn.2 (by omega) ha), Or.inl ⟨a, rfl⟩, by simpa using ⟨ha.ok, ha.qt⟩⟩
    · obtain ⟨bs, h1, h2, h3⟩ := sortB2 hn.2 (by omega) ha hb hk
      refine ⟨bs, sortX_of h1, h2, fun c hc => ?_⟩
      rcases h3 c hc with rfl | rfl
      · exact ⟨ha.ok, ha.qt⟩
      · exact ⟨hb.ok, hb.qt⟩
  obtain ⟨bs, hs1, hs2, hs3⟩ := hsort
  have hlc := scene_lc (n := n) (at' := at') (size := size) (lp := lp) hacc p q r x'
  refine ⟨s, bs, x', ?_, hx', hs, hs2, hs3⟩
  have c1 : sPars [5, 6] (xsCons (xVal (fCallR 0 m_law_taken (aCons (fVar 1) aNil))) (xsCons (xNew (.dt [])) xsNil)) [.rw, .va (.int n), .va (.int at'), .va (.int size), .va (.bool lp), .no, .no, .no, .no, .no, .no] x = some (.nx (scE n at' size lp s [] .no .no .no), x1) := by
    simp [sPars, xsCons, xsNil, xVal, xNew, fCallR, aCons, aNil, fVar, h1, setsE, scE, hd]
  have c2 : fRg1 (fBin gAdd (fC (.int 1)) (fCallR 0 m_law_taken (aCons (fC (.int 2)) aNil))) (scE n at' size lp s [] .no .no .no) x1 = some (rgD 0 (1 + t2).toNat, x2) := by
    have : okRg (1 + t2) = true := by simp only [okRg, decide_eq_true_eq]; omega
    simp [fRg1, fBin, fC, fCallR, aCons, aNil, scE, h2, gAdd, gOr, gI, this]
  have c3 : b_law_scene [.rw, .va (.int n), .va (.int at'), .va (.int size), .va (.bool lp), .no, .no, .no, .no, .no, .no] x = some (.rt (eS (some (s, bs))), x') := by
    unfold b_law_scene
    rw [sSeq_nx c1, sSeq_nx (by simp only [sFor, c2]; exact e)]
    have v5 : fVar 5 (scE n at' size lp s acc p q r) x' = some (.int s, x') := rfl
    simp only [sRet, fTup, fCall, aCons, aNil, v5, hlc, hs1, gTupOf]
    simp [maxLen, eS]
  show mkR 10 4 b_law_scene _ x = _
  simp only [mkR, List.length_cons, List.length_nil, if_true]
  rw [show FSl.rw :: startE 10 [.int n, .int at', .int size, .bool lp] = [.rw, .va (.int n), .va (.int at'), .va (.int size), .va (.bool lp), .no, .no, .no, .no, .no, .no] from rfl, c3]
end Lw
namespace Lw
open PySem RT
theorem compL_row {gt : FGt} {t : FT} {fe : FE} {env : FEn} (Good : Int → Sc → Prop) : ∀ (l : List Int), (∀ a ∈ l, ∀ x : FRow, 0 ≤ x.a → ∃ e sc x', gt (.int a) env = some e ∧ t e x = some (true, x) ∧ fe e x = some (eS sc, x') ∧ 0 ≤ x'.a ∧ Good a sc) → ∀ x : FRow, 0 ≤ x.a → ∃ (scs : List Sc) (x' : FRow), compL gt t fe env (l.map .int) x = some (scs.map eS, x') ∧ 0 ≤ x'.a ∧ scs.length = l.length ∧ ∀ (i : Nat) a sc, l[i]? = some a → scs[i]? = some sc → Good a sc
  | [], _, x, hx => ⟨[], x, rfl, hx, rfl, by simp⟩
  | a :: l, h, x, hx => by
    obtain ⟨e, sc, x1, h1, h2, h3, h4, h5⟩ := h a (by simp) x hx
    obtain ⟨scs, x2, g1, g2, g3, g4⟩ := compL_row Good l (fun b hb => h b (by simp [hb])) x1 h4
    refine ⟨sc :: scs, x2, by simp [compL, h1, h2, h3, g1], g2, by simp [g3], ?_⟩
    intro i b z hb hz
    cases i with
    | zero => simp only [List.getElem?_cons_zero, Option.some.injEq] at hb hz; subst hb; subst hz; exact h5
    | succ i => simp only [List.getElem?_cons_succ] at hb hz; exact g4 i b z hb hz
def Dag (ss : List Sc) : Prop := ∀ v, 0 ≤ v → v < (ss.length : Int) → ∀ b ∈ brs ss v, v < b.2.2
theorem script_ok {n : Int} {lp : Bool} {most : Int} (hmo : 1 ≤ most ∧ most ≤ 6) (hn : 2 ≤ n ∧ n ≤ 4) {x : FRow} (hx : 0 ≤ x.a) : ∃ ss x', m_law_script [.int n, .int most, .bool lp] x = some (eX n ss, x') ∧ 0 ≤ x'.a ∧ Ok n ss ∧ (lp = false → Dag ss) ∧ (ss.length : Int) ≤ most + 1 := by
  obtain ⟨t, x1, h1, h1a, h1b, hx1⟩ := taken_ok (many := most) hx (by omega) (by omega)
  obtain ⟨size, hsz⟩ : ∃ size : Nat, 1 + t = (size : Int) := ⟨(1 + t).toNat, by omega⟩
  have hz : 1 ≤ size ∧ size ≤ 6 := by omega
  have c1 : sSet 4 (xVal (fBin gAdd (fC (.int 1)) (fCallR 0 m_law_taken (aCons (fVar 2) aNil)))) [.rw, .va (.int n), .va (.int most), .va (.bool lp), .no, .no] x = some (.nx [.rw, .va (.int n), .va (.int most), .va (.bool lp), .va (.int size), .no], x1) := by
    simp [sSet, xVal, fBin, fC, fCallR, aCons, aNil, fVar, h1, gAdd, gOr, gI, hsz]
  obtain ⟨scs, x2, g1, g2, g3, g4⟩ := compL_row (gt := gtName 5) (t := tYesF) (fe := fCallR 0 m_law_scene (aCons (fVar 1) (aCons (fVar 5) (aCons (fVar 4) (aCons (fVar 3) aNil))))) (env := [.rw, .va (.int n), .va (.int most), .va (.bool lp), .va (.int size), .no]) (fun a sc => ∃ s bs, sc = some (s, bs) ∧ (0 ≤ s ∧ s < n) ∧ Two bs ∧ ∀ b ∈ bs, OkB n (size + 1) s b ∧ (lp = false → a < b.2.2)) ((List.range size).map fun (i : Nat) => (i : Int)) (by
    intro a ha x hx
    obtain ⟨i, hi, rfl⟩ := List.mem_map.mp ha
    have hi' : i < size := by simpa using hi
    obtain ⟨s, bs, x', e1, e2, e3, e4, e5⟩ := scene_ok (at' := (i : Int)) (lp := lp) hn hz ⟨by omega, by omega⟩ hx
    refine ⟨_, some (s, bs), x', rfl, rfl, ?_, e2, s, bs, rfl, e3, e4, e5⟩
    simp [fCallR, aCons, aNil, fVar, e1]) x1 hx1
  have hlen : scs.length = size := by simpa using g3
  have c2 : fOfX (xLc (fRg1 (fVar 4)) (gtName 5) tYesF (fCallR 0 m_law_scene (aCons (fVar 1) (aCons (fVar 5) (aCons (fVar 4) (aCons (fVar 3) aNil))))) [5]) [.rw, .va (.int n), .va (.int most), .va (.bool lp), .va (.int size), .no] x1 = some (.list (scs.map eS), x2) := by
    have hr : okRg (size : Int) = true := rg_ok (by omega)
    have hrg : fRg1 (fVar 4) [.rw, .va (.int n), .va (.int most), .va (.bool lp), .va (.int size), .no] x1 = some (((List.range size).map fun (i : Nat) => (i : Int)).map D.int, x1) := by
      simp [fRg1, fVar, hr, rgD_map]
    have hm : (scs.map eS).length < maxLen := by simp only [List.length_map, maxLen]; omega
    rw [fOfX, xLc, hrg]
    simp only
    rw [show wipeE [FSl.rw, .va (.int n), .va (.int most), .va (.bool lp), .va (.int size), .no] [5] = [FSl.rw, .va (.int n), .va (.int most), .va (.bool lp), .va (.int size), .no] from rfl, g1]
    simp only [if_pos hm, OwD.d]
  refine ⟨scs ++ [none], x2, ?_, g2, ⟨hn, by simp; omega, ?_⟩, ?_, by rw [List.length_append, List.length_singleton]; omega⟩
  · have c3 : b_law_script [.rw, .va (.int n), .va (.int most), .va (.bool lp), .no, .no] x = some (.rt (eX n (scs ++ [none])), x2) := by
      unfold b_law_script
      rw [sSeq_nx c1]
      have hm : (scs.map eS).length + [D.none].length ≤ maxLen := by simp only [List.length_map, List.length_cons, List.length_nil, maxLen]; omega
      have h0 : ([] : List D).length ≤ maxLen := Nat.zero_le _
      have h1 : [D.none].length ≤ maxLen := by simp only [List.length_cons, List.length_nil, maxLen]; omega
      have h2 : [D.int n, .tuple (scs.map eS ++ [.none])].length ≤ maxLen := by simp only [List.length_cons, List.length_nil, maxLen]; omega
      have v1 : fVar 1 [.rw, .va (.int n), .va (.int most), .va (.bool lp), .va (.int size), .no] x1 = some (.int n, x1) := rfl
      have q1 := tupOf_ok c2
      have q2 : fTup (aCons (fC .none) aNil) [.rw, .va (.int n), .va (.int most), .va (.bool lp), .va (.int size), .no] x2 = some (.tuple [.none], x2) := fTup_ok rfl h1
      have q3 := fBin_cat q1 q2 hm
      have q4 := fTup_ok (aCons2 v1 q3) h2
      rw [sRet, q4]
      simp only [eX, List.map_append, List.map_cons, List.map_nil, eS]
    show mkR 5 3 b_law_script _ x = _
    simp only [mkR, List.length_cons, List.length_nil, if_true]
    rw [show FSl.rw :: startE 5 [.int n, .int most, .bool lp] = [.rw, .va (.int n), .va (.int most), .va (.bool lp), .no, .no] from rfl, c3]
  · intro s bs hm
    have hm' : some (s, bs) ∈ scs := by simpa using hm
    obtain ⟨i, hi, ei⟩ := List.mem_iff_getElem.mp hm'
    obtain ⟨s', bs', e, h2, h3, h4⟩ := g4 i i _ (by rw [List.getElem?_map, List.getElem?_range (by omega)]; rfl) (List.getElem?_eq_getElem hi)
    rw [ei] at e
    simp only [Option.some.injEq, Prod.mk.injEq] at e
    obtain ⟨rfl, rfl⟩ := e
    refine ⟨h2, h3, fun b hb => ?_⟩
    have := (h4 b hb).1
    rw [List.length_append, hlen]
    exact this
  · intro hlp v v0 v1 b hb
    have hl : (scs ++ [none]).length = size + 1 := by simp [hlen]
    rw [hl] at v1
    have e := (scAt_mem (ss := scs ++ [none]) v0 (by rw [hl]; exact v1)).1
    unfold brs at hb
    by_cases c : v.toNat < scs.length
    · rw [List.getElem?_append_left c] at e
      obtain ⟨s', bs', e', h2, h3, h4⟩ := g4 v.toNat v _ (by rw [List.getElem?_map, List.getElem?_range (by omega)]; simp; omega) e
      rw [e'] at hb
      exact (h4 b hb).2 hlp
    · rw [List.getElem?_append_right (by omega)] at e
      have : v.toNat - scs.length = 0 := by omega
      rw [this] at e
      simp only [List.getElem?_cons_zero, Option.some.injEq] at e
      rw [← e] at hb
      cases hb
end Lw
namespace Lw
open PySem RT Wb
variable {n : Int} {ss : List Sc} {a : Int}
/-! the sets of an actor, told once for all -/
def TH (ss : List Sc) (a : Int) : List (List Int) := itA (a0 ss a) (nx ss a) 64
theorem th_grn (k : Ok n ss) (h6 : ss.length ≤ 6) : Grn (a0 ss a) (nx ss a) (PS ss) (TH ss a) (TH ss a).length ∧ m_set_web [eX n ss, .int a] = some (.tuple [.list ((TH ss a).map tI), .list ((TH ss a).map (rowA (nx ss a) eE (TH ss a)))]) := by
  obtain ⟨th, g, e⟩ := set_web_eq (a := a) k h6
  have hb := ps_bound h6 g.nd g.p
  have h1 := itA_stop (a0 := a0 ss a) (nx := nx ss a) (k := th.length) (by rw [← g.it]) (64 - th.length)
  rw [show th.length + (64 - th.length) = 64 by omega, ← g.it] at h1
  unfold TH
  rw [h1]
  exact ⟨g, e⟩
theorem th_len (k : Ok n ss) (h6 : ss.length ≤ 6) : (TH ss a).length ≤ 64 := by
  have g := (th_grn (a := a) k h6).1
  exact ps_bound h6 g.nd g.p
theorem th_ps (k : Ok n ss) (h6 : ss.length ≤ 6) : ∀ l ∈ TH ss a, PS ss l := (th_grn (a := a) k h6).1.p
theorem check_actor_ok (ha : 0 ≤ a ∧ a < n) : m_check_actor [.int a, .int n] = some .none := by
  have e1 := is_number_eq a 0 (n - 1)
  have h1 : (decide ((0 : Int) ≤ a) && decide (a ≤ n - 1)) = true := by simp; omega
  rw [h1] at e1
  refine mkF_nx (x := row0) (e := [.va (.int a), .va (.int n)]) rfl ?_
  have q : fCall m_is_number (aCons (fVar 0) (aCons (fC (.int 0)) (aCons (fBin gSubI (fBor 1) (fC (.int 1))) aNil))) [.va (.int a), .va (.int n)] row0 = some (.bool true, row0) := fK (aC3 (vV rfl) rfl (fB (d := .int n) (e := .int 1) (r := .int (n - 1)) (vB rfl) rfl rfl)) e1
  show b_check_actor [.va (.int a), .va (.int n)] row0 = _
  simp only [b_check_actor, sIf, tNotF, fTru, q, truD]
  rfl
def cutD (ss : List Sc) (a : Int) : D := .tuple ((TH ss a).map (rowL ss a (TH ss a)))
end Lw
namespace Lw
open PySem RT Wb
/-! kinds -/
end Lw
namespace Lw
open PySem RT Wb
variable {n : Int} {ss : List Sc} {a : Int}
def actorsL (N : Nat) : List Int := (List.range N).map fun (i : Nat) => (i : Int)
theorem rg_actors (k : Ok n ss) {N : Nat} (hN : n = (N : Int)) {i : Nat} {env : FEn} {x : FRow} (h : env[i]? = some (.va (eX n ss))) : fRg1 (fBin gAt (fBor i) (fC (.int 0))) env x = some ((actorsL N).map D.int, x) := by
  have hn2 := k.n2
  have q1 : fBin gAt (fBor i) (fC (.int 0)) env x = some (.int n, x) := fB (fb := fC (.int 0)) (vB h) rfl (eX_0 n ss)
  have ok : okRg n = true := by rw [hN]; exact rg_ok (by omega)
  rw [fRg1, q1]
  simp only [ok, if_true]
  unfold actorsL
  rw [List.map_map, hN, Int.toNat_natCast, rgD_map]; rfl
/-! the law -/
end Lw
namespace Lw
open PySem RT Wb
/-! webs of any size -/
/-! parts of any size -/
abbrev Sta := Bool × List (E × Int)
abbrev Prt := List Sta
def eSp (p : E × Int) : D := .tuple [.str (kS p.1.1), .int p.1.2.1, .int p.1.2.2, .int p.2]
def eSa (s : Sta) : D := .tuple [.bool s.1, .tuple (s.2.map eSp)]
def ePr (ps : Prt) : D := .tuple (ps.map eSa)
structure SaOk (m : Nat) (s : Sta) : Prop where
  l : s.2.length ≤ 100
  e : ∀ p ∈ s.2, EOk p.1
  t : ∀ p ∈ s.2, 0 ≤ p.2 ∧ p.2 < (m : Int)
  a : s.2.Pairwise fun p q => cE p.1 < cE q.1
structure PrOk (ps : Prt) : Prop where
  n : 1 ≤ ps.length ∧ ps.length ≤ 200
  s : ∀ s ∈ ps, SaOk ps.length s
theorem eSp_1 (p : E × Int) : gAt (eSp p) (.int 1) = some (.int p.1.2.1) := by simp only [eSp, gAt, atI_z1]
theorem eSp_3 (p : E × Int) : gAt (eSp p) (.int 3) = some (.int p.2) := by simp only [eSp, gAt]; exact atI_nat (i := 3) rfl
theorem cutE3 (d0 d1 d2 d3 : D) : cutL [d0, d1, d2, d3] none (some 3) = [d0, d1, d2] := by rfl
theorem slE3 {p : E × Int} {f : FE} {env : FEn} {x : FRow} (hf : f env x = some (eSp p, x)) : fSl f oNone (oSome (fC (.int 3))) env x = some (eE p.1, x) := by
  simp only [fSl, hf, oNone, oSome, fC, eSp, gSl, cutE3]
  rfl
theorem is_event_E {e : E} (h : EOk e) : m_is_event [eE e] = some (.bool true) := by
  obtain ⟨k, o, w⟩ := e
  obtain ⟨ho, hw⟩ := h
  simp only at ho hw
  refine mkF_rt (x := row0) rfl ?_
  have c1 : sIf (tNotF (fTru (fCall m_has_items (aCons (fVar 0) (aCons (fC (.int 3)) (aCons (fC (.int 3)) aNil)))))) (sRet (fC (.bool false))) sNil [.va (eE (k, o, w)), .no, .no, .no] row0 = some (.nx [.va (eE (k, o, w)), .no, .no, .no], row0) := by
    have := fK (x := row0) (env := [.va (eE (k, o, w)), .no, .no, .no]) (aC3 (vV (i := 0) rfl) (show fC (.int 3) _ _ = some (.int 3, row0) from rfl) (show fC (.int 3) _ _ = some (.int 3, row0) from rfl)) (has_items_eq [.str (kS k), .int o, .int w] 3 3)
    simp only [sIf, tNotF, fTru, this, truD]
    rfl
  have c2 : sUnp (fVar 0) (gtTup 3 (gtCons (gtName 1) (gtCons (gtName 2) (gtCons (gtName 3) gtNil)))) [.va (eE (k, o, w)), .no, .no, .no] row0 = some (.nx [.va (eE (k, o, w)), .va (.str (kS k)), .va (.int o), .va (.int w)], row0) := rfl
  show b_is_event [.va (eE (k, o, w)), .no, .no, .no] row0 = _
  unfold b_is_event
  rw [sSeq_nx c1, sSeq_nx c2]
  have d1 : fInS [Str.ofString "hear", Str.ofString "say"] (fBor 1) [.va (eE (k, o, w)), .va (.str (kS k)), .va (.int o), .va (.int w)] row0 = some (.bool true, row0) := by
    simp only [fInS, vB (show [FSl.va (eE (k, o, w)), .va (.str (kS k)), .va (.int o), .va (.int w)][1]? = some (.va (.str (kS k))) from rfl)]
    cases k <;> simp [kS]
  have d2 : fCall m_is_number (aCons (fVar 2) (aCons (fC (.int 0)) (aCons (fC (.int 3)) aNil))) [.va (eE (k, o, w)), .va (.str (kS k)), .va (.int o), .va (.int w)] row0 = some (.bool true, row0) := fK (aC3 (vV rfl) rfl rfl) (by rw [is_number_eq]; simp [ho.1, ho.2])
  have d3 : fCall m_is_number (aCons (fVar 3) (aCons (fC (.int 0)) (aCons (fC (.int 5)) aNil))) [.va (eE (k, o, w)), .va (.str (kS k)), .va (.int o), .va (.int w)] row0 = some (.bool true, row0) := fK (aC3 (vV rfl) rfl rfl) (by rw [is_number_eq]; simp [hw.1, hw.2])
  exact sR (fAnd_eq d1 (fAnd_eq d2 d3))
theorem is_step_E {m : Nat} {p : E × Int} (h : EOk p.1) (ht : 0 ≤ p.2 ∧ p.2 < (m : Int)) : m_is_step [eSp p, .int m] = some (.bool true) := by
  refine mkF_rt (x := row0) rfl ?_
  show b_is_step [.va (eSp p), .va (.int m)] row0 = _
  have d1 : fCall m_has_items (aCons (fVar 0) (aCons (fC (.int 4)) (aCons (fC (.int 4)) aNil))) [.va (eSp p), .va (.int m)] row0 = some (.bool true, row0) := fK (aC3 (vV rfl) rfl rfl) (by rw [eSp, has_items_eq]; rfl)
  have d2 : fCall m_is_event (aCons (fSl (fBor 0) oNone (oSome (fC (.int 3)))) aNil) [.va (eSp p), .va (.int m)] row0 = some (.bool true, row0) := fK (aC1 (slE3 (vB rfl))) (is_event_E h)
  have d3 : fCall m_is_number (aCons (fBin gAt (fBor 0) (fC (.int 3))) (aCons (fC (.int 0)) (aCons (fBin gSubI (fBor 1) (fC (.int 1))) aNil))) [.va (eSp p), .va (.int m)] row0 = some (.bool true, row0) := by
    refine fK (aC3 (fB (vB rfl) rfl (eSp_3 p)) rfl (fB (vB rfl) rfl (r := .int ((m : Int) - 1)) rfl)) ?_
    rw [is_number_eq]
    have : p.2 ≤ (m : Int) - 1 := by omega
    simp [ht.1, this]
  exact sR (fAnd_eq d1 (fAnd_eq d2 d3))
theorem rgN {f : FE} {env : FEn} {x : FRow} {n : Nat} (h : f env x = some (.int (n : Int), x)) (hn : n ≤ 1000) : fRg1 f env x = some (rgD 0 n, x) := by
  simp only [fRg1, h, rg_ok hn, if_true, Int.toNat_natCast]
theorem ltX_E {e f : E} (h : EOk e) (h' : EOk f) (c : cE e < cE f) : gLtX (eE e) (eE f) = some (.bool true) := by
  have hs1 := (pt_eE e).sh (by omega)
  have hs2 := (pt_eE f).sh (by omega)
  have hn : isNoneD (eE e) = false := rfl
  have hl : PySem.W.dataLt (eE e).py (eE f).py = true := by
    have := leD_c h' h
    unfold leD at this
    have z : decide (cE f ≤ cE e) = false := by simp; omega
    rw [z] at this
    simpa using this
  have : gLt (eE e) (eE f) = none := rfl
  simp only [gLtX, gOr, this, gLtD, hs1, hs2, eE_alike, hn, hl, Bool.not_false, Bool.and_self, if_true]
theorem all_true {α : Type} (l : List α) : gAll [.list (l.map fun _ => D.bool true)] = some (.bool true) := by
  have := bools_map (fun _ : α => true) l
  simp only [gAll, this]
  congr 2
  rw [List.all_eq_true]
  intro b hb
  obtain ⟨_, _, rfl⟩ := List.mem_map.mp hb
  rfl
theorem rising_E {l : List E} (hl : l.length ≤ 100) (he : ∀ e ∈ l, EOk e) (ha : l.Pairwise fun p q => cE p < cE q) : m_is_rising [.list (l.map eE)] = some (.bool true) := by
  refine mkF_rt (x := row0) rfl ?_
  show b_is_rising [.va (.list (l.map eE)), .no] row0 = _
  cases hl0 : l with
  | nil => rfl
  | cons a l' =>
    rw [← hl0]
    have hp : 1 ≤ l.length := by rw [hl0]; simp
    have c0 : fBin gSubI (fCall gLen (aCons (fBor 0) aNil)) (fC (.int 1)) [.va (.list (l.map eE)), .no] row0 = some (.int ((l.length - 1 : Nat) : Int), row0) :=
      fB (fK (aC1 (vB rfl)) (r := .int (l.length : Int)) (by simp [gLen])) rfl (by show some (D.int ((l.length : Int) - 1)) = _; congr 2; omega)
    have c : fOfX (xLc (fRg1 (fBin gSubI (fCall gLen (aCons (fBor 0) aNil)) (fC (.int 1)))) (gtName 1) tYesF (fBin gLtX (fBin gAt (fBor 0) (fBor 1)) (fBin gAt (fBor 0) (fBin gAdd (fBor 1) (fC (.int 1))))) [1]) [.va (.list (l.map eE)), .no] row0 = some (.list ((List.range (l.length - 1)).map fun _ => .bool true), row0) := by
      refine lc_eq (ds := (List.range (l.length - 1)).map fun (i : Nat) => D.int (i : Int)) (by rw [← rgD_map]; exact rgN c0 (by omega)) (compL_map (fun (i : Nat) => D.int (i : Int)) (fun _ => D.bool true) _ fun i hi => ⟨_, rfl, rfl, ?_⟩) (nob_n (by rw [List.length_map, List.length_range]; omega))
      have hi := List.mem_range.mp hi
      have h1 : i < l.length := by omega
      have h2 : i + 1 < l.length := by omega
      have g1 : gAt (.list (l.map eE)) (.int (i : Int)) = some (eE l[i]) := atI_nat (by rw [List.getElem?_map, List.getElem?_eq_getElem h1]; rfl)
      have g2 : gAt (.list (l.map eE)) (.int ((i + 1 : Nat) : Int)) = some (eE l[i + 1]) := atI_nat (by rw [List.getElem?_map, List.getElem?_eq_getElem h2]; rfl)
      have lt := List.pairwise_iff_getElem.mp ha i (i + 1) h1 h2 (by omega)
      exact fB (fB (vB rfl) (vB rfl) g1) (fB (vB rfl) (fB (d := .int (i : Int)) (r := .int ((i + 1 : Nat) : Int)) (vB rfl) rfl rfl) g2) (ltX_E (he _ (List.getElem_mem h1)) (he _ (List.getElem_mem h2)) lt)
    exact sR (fK (aC1 c) (all_true _))
theorem is_state_E {m : Nat} {s : Sta} (h : SaOk m s) : m_is_state [eSa s, .int m] = some (.bool true) := by
  have hsl := h.l
  refine mkF_rt (x := row0) rfl ?_
  have c1 : sIf (tNotF (fTru (fCall m_has_items (aCons (fVar 0) (aCons (fC (.int 2)) (aCons (fC (.int 2)) aNil)))))) (sRet (fC (.bool false))) sNil [.va (eSa s), .va (.int m), .no, .no, .no] row0 = some (.nx [.va (eSa s), .va (.int m), .no, .no, .no], row0) := by
    have := fK (x := row0) (env := [.va (eSa s), .va (.int m), .no, .no, .no]) (aC3 (vV (i := 0) rfl) (show fC (.int 2) _ _ = some (.int 2, row0) from rfl) (show fC (.int 2) _ _ = some (.int 2, row0) from rfl)) (has_items_eq [.bool s.1, .tuple (s.2.map eSp)] 2 2)
    simp only [sIf, tNotF, fTru, this, truD]
    rfl
  have c2 : sUnp (fVar 0) (gtTup 2 (gtCons (gtName 2) (gtCons (gtName 3) gtNil))) [.va (eSa s), .va (.int m), .no, .no, .no] row0 = some (.nx [.va (eSa s), .va (.int m), .va (.bool s.1), .va (.tuple (s.2.map eSp)), .no], row0) := rfl
  have c3 : sIf (tOrF (tNotF (fTru (fIsi .bool (fBor 2)))) (tNotF (fTru (fIsi .tuple (fBor 3))))) (sRet (fC (.bool false))) sNil [.va (eSa s), .va (.int m), .va (.bool s.1), .va (.tuple (s.2.map eSp)), .no] row0 = some (.nx [.va (eSa s), .va (.int m), .va (.bool s.1), .va (.tuple (s.2.map eSp)), .no], row0) := by
    simp [sIf, tOrF, tNotF, fTru, fIsi, fBor, isiD, truD, sNil]
  have l1 : fOfX (xLc (fSeq (fVar 3)) (gtName 4) tYesF (fCall m_is_step (aCons (fVar 4) (aCons (fVar 1) aNil))) [4]) [.va (eSa s), .va (.int m), .va (.bool s.1), .va (.tuple (s.2.map eSp)), .no] row0 = some (.list (s.2.map fun _ => .bool true), row0) :=
    lc_eq (ds := s.2.map eSp) (sqT (vV rfl)) (compL_map eSp _ s.2 fun p hp => ⟨_, rfl, rfl, fK (aC2 (vV rfl) (vV rfl)) (is_step_E (h.e p hp) (h.t p hp))⟩) (nob_n (by rw [List.length_map]; omega))
  have c4 : sIf (tNotF (fTru (fCall gAll (aCons (fOfX (xLc (fSeq (fVar 3)) (gtName 4) tYesF (fCall m_is_step (aCons (fVar 4) (aCons (fVar 1) aNil))) [4])) aNil)))) (sRet (fC (.bool false))) sNil [.va (eSa s), .va (.int m), .va (.bool s.1), .va (.tuple (s.2.map eSp)), .no] row0 = some (.nx [.va (eSa s), .va (.int m), .va (.bool s.1), .va (.tuple (s.2.map eSp)), .no], row0) := by
    have := fK (aC1 l1) (all_true s.2)
    simp only [sIf, tNotF, fTru, this, truD, Bool.not_true, sNil]
  have l2 : fOfX (xLc (fSeq (fVar 3)) (gtName 4) tYesF (fSl (fBor 4) oNone (oSome (fC (.int 3)))) [4]) [.va (eSa s), .va (.int m), .va (.bool s.1), .va (.tuple (s.2.map eSp)), .no] row0 = some (.list ((s.2.map (·.1)).map eE), row0) := by
    rw [List.map_map]
    exact lc_eq (ds := s.2.map eSp) (sqT (vV rfl)) (compL_map eSp _ s.2 fun p hp => ⟨_, rfl, rfl, slE3 (vB rfl)⟩) (nob_n (by rw [List.length_map]; omega))
  show b_is_state [.va (eSa s), .va (.int m), .no, .no, .no] row0 = _
  unfold b_is_state
  rw [sSeq_nx c1, sSeq_nx c2, sSeq_nx c3, sSeq_nx c4]
  refine sR (fK (aC1 l2) (rising_E (by rw [List.length_map]; exact hsl) (fun e he => ?_) (List.pairwise_map.mpr h.a)))
  obtain ⟨p, hp, rfl⟩ := List.mem_map.mp he
  exact h.e p hp
theorem items_ok {α : Type} (f : α → D) (l : List α) {lo hi : Nat} (h : lo ≤ l.length ∧ l.length ≤ hi) : m_has_items [.tuple (l.map f), .int lo, .int hi] = some (.bool true) := by
  rw [has_items_eq, List.length_map]
  have h1 : decide ((lo : Int) ≤ (l.length : Int)) = true := by simp; omega
  have h2 : decide ((l.length : Int) ≤ (hi : Int)) = true := by simp; omega
  rw [h1, h2]; rfl
end Lw
namespace Lw
open PySem RT Wb
/-! casts -/
def eCa (c : List Prt) : D := .tuple (c.map ePr)
structure CaOk (c : List Prt) : Prop where
  n : 2 ≤ c.length ∧ c.length ≤ 4
  p : ∀ ps ∈ c, PrOk ps
  o : ∀ i (hi : i < c.length), ∀ s ∈ c[i], ∀ p ∈ s.2, 0 ≤ p.1.2.1 ∧ p.1.2.1 < (c.length : Int) ∧ p.1.2.1 ≠ (i : Int)
theorem is_part_E {ps : Prt} (h : PrOk ps) : m_is_part [ePr ps] = some (.bool true) := by
  have hn := h.n
  refine mkF_rt (x := row0) rfl ?_
  show b_is_part [.va (ePr ps), .no] row0 = _
  have d1 : fCall m_has_items (aCons (fVar 0) (aCons (fC (.int 1)) (aCons (fC (.int 255)) aNil))) [.va (ePr ps), .no] row0 = some (.bool true, row0) := fK (aC3 (vV rfl) rfl rfl) (items_ok eSa ps (lo := 1) (hi := 255) (by omega))
  have d2 : fOfX (xLc (fSeq (fVar 0)) (gtName 1) tYesF (fCall m_is_state (aCons (fVar 1) (aCons (fCall gLen (aCons (fBor 0) aNil)) aNil))) [1]) [.va (ePr ps), .no] row0 = some (.list (ps.map fun _ => .bool true), row0) :=
    lc_eq (ds := ps.map eSa) (sqT (vV rfl)) (compL_map eSa _ ps fun s hs => ⟨_, rfl, rfl, fK (aC2 (vV rfl) (fK (aC1 (vB rfl)) (by simp only [gLen, ePr, List.length_map]))) (is_state_E (h.s s hs))⟩) (nob_n (by rw [List.length_map]; omega))
  exact sR (fAnd_eq d1 (fK (aC1 d2) (all_true ps)))
theorem is_other_E {v a n : Int} (h : 0 ≤ v ∧ v < n ∧ v ≠ a) : m_is_other [.int v, .int a, .int n] = some (.bool true) := by
  refine mkF_rt (x := row0) rfl ?_
  show b_is_other [.va (.int v), .va (.int a), .va (.int n)] row0 = _
  have d1 : fCall m_is_number (aCons (fVar 0) (aCons (fC (.int 0)) (aCons (fBin gSubI (fBor 2) (fC (.int 1))) aNil))) [.va (.int v), .va (.int a), .va (.int n)] row0 = some (.bool true, row0) := by
    refine fK (aC3 (vV rfl) rfl (fB (r := .int (n - 1)) (vB rfl) rfl rfl)) ?_
    rw [is_number_eq]
    have : v ≤ n - 1 := by omega
    simp [h.1, this]
  have d2 : fBin gNe (fBor 0) (fBor 1) [.va (.int v), .va (.int a), .va (.int n)] row0 = some (.bool true, row0) := fB (vB rfl) (vB rfl) (by rw [ne_int]; simp [h.2.2])
  exact sR (fAnd_eq d1 d2)
theorem flat_map' {α β : Type} (g : β → D) (f : α → List β) : ∀ l : List α, (l.flatMap fun a => (f a).map g) = (l.flatMap f).map g
  | [] => rfl
  | a :: l => by rw [List.flatMap_cons, List.flatMap_cons, List.map_append, flat_map' g f l]
theorem is_part_of_E {ps : Prt} {a n : Int} (h : PrOk ps) (ho : ∀ s ∈ ps, ∀ p ∈ s.2, 0 ≤ p.1.2.1 ∧ p.1.2.1 < n ∧ p.1.2.1 ≠ a) : m_is_part_of [ePr ps, .int a, .int n] = some (.bool true) := by
  have hn := h.n
  refine mkF_rt (x := row0) rfl ?_
  show b_is_part_of [.va (ePr ps), .va (.int a), .va (.int n), .no, .no, .no] row0 = _
  have d1 : fCall m_is_part (aCons (fVar 0) aNil) [.va (ePr ps), .va (.int a), .va (.int n), .no, .no, .no] row0 = some (.bool true, row0) := fK (aC1 (vV rfl)) (is_part_E h)
  have hl : ((ps.flatMap fun s => s.2.map fun _ => D.bool true)).length < maxLen := by
    have := Wb.flat_le (f := fun s : Sta => s.2.map fun _ => D.bool true) (b := 100) ps fun s hs => by rw [List.length_map]; exact (h.s s hs).l
    exact nob_n (by omega)
  have d2 : fOfX (xLc2 (fSeq (fVar 0)) (gtTup 2 (gtCons (gtName 3) (gtCons (gtName 4) gtNil))) tYesF (fSeq (fVar 4)) (gtName 5) tYesF (fCall m_is_other (aCons (fBin gAt (fBor 5) (fC (.int 1))) (aCons (fVar 1) (aCons (fVar 2) aNil)))) [3, 4, 5] [5]) [.va (ePr ps), .va (.int a), .va (.int n), .no, .no, .no] row0 = some (.list (ps.flatMap fun s => s.2.map fun _ => .bool true), row0) := by
    refine lc2_eq (ds := ps.map eSa) (sqT (vV rfl)) (compL2_map (β := Unit) eSa (fun s => s.2.map eSp) _ ps fun s hs => ⟨[.va (ePr ps), .va (.int a), .va (.int n), .va (.bool s.1), .va (.tuple (s.2.map eSp)), .no], rfl, sqT (vV rfl), ?_⟩) hl
    exact compL_map eSp _ s.2 fun p hp => ⟨_, rfl, rfl, fK (aC3 (fB (vB rfl) rfl (eSp_1 p)) (vV rfl) (vV rfl)) (is_other_E (ho s hs p hp))⟩
  rw [flat_map'] at d2
  exact sR (fAnd_eq d1 (fK (aC1 d2) (all_true _)))
theorem check_cast_E {c : List Prt} (h : CaOk c) : m_check_cast [eCa c] = some .none := by
  have hn := h.n
  obtain ⟨e3, h4, p, q, rfl⟩ := forL_ix (gt := gtTup 2 (gtCons (gtName 1) (gtCons (gtName 2) gtNil))) (b := sIf (tNotF (fTru (fCall m_is_part_of (aCons (fVar 2) (aCons (fVar 1) (aCons (fCall gLen (aCons (fBor 0) aNil)) aNil)))))) sNo sNil) (x := row0) (fun p : Prt × Nat => D.tuple [.int (p.2 : Int), ePr p.1]) c.zipIdx (fun _ env => ∃ p q, env = [.va (eCa c), p, q]) [.va (eCa c), .no, .no] ⟨_, _, rfl⟩ (by
    rintro i hi _ ⟨p, q, rfl⟩
    rw [List.length_zipIdx] at hi
    rw [List.getElem_zipIdx]
    have : fCall m_is_part_of (aCons (fVar 2) (aCons (fVar 1) (aCons (fCall gLen (aCons (fBor 0) aNil)) aNil))) [.va (eCa c), .va (.int ((0 + i : Nat) : Int)), .va (ePr c[i])] row0 = some (.bool true, row0) := fK (aC3 (vV rfl) (vV rfl) (fK (aC1 (vB rfl)) (r := .int (c.length : Nat)) (by simp only [gLen, eCa, List.length_map]))) (is_part_of_E (h.p _ (List.getElem_mem hi)) (by rw [Nat.zero_add]; exact h.o i hi))
    refine ⟨[.va (eCa c), .va (.int ((0 + i : Nat) : Int)), .va (ePr c[i])], [.va (eCa c), .va (.int ((0 + i : Nat) : Int)), .va (ePr c[i])], rfl, ?_, _, _, rfl⟩
    simp only [sIf, tNotF, fTru, this, truD, Bool.not_true, sNil])
  refine mkF_nx (e := [.va (eCa c), p, q]) (x := row0) rfl ?_
  show b_check_cast [.va (eCa c), .no, .no] row0 = _
  have c1 : sIf (tNotF (fTru (fCall m_has_items (aCons (fVar 0) (aCons (fC (.int 2)) (aCons (fC (.int 4)) aNil)))))) sNo sNil [.va (eCa c), .no, .no] row0 = some (.nx [.va (eCa c), .no, .no], row0) := by
    have := fK (x := row0) (env := [.va (eCa c), .no, .no]) (aC3 (vV (i := 0) rfl) (show fC (.int 2) _ _ = some (.int 2, row0) from rfl) (show fC (.int 4) _ _ = some (.int 4, row0) from rfl)) (items_ok ePr c (lo := 2) (hi := 4) (by omega))
    simp only [sIf, tNotF, fTru, this, truD, Bool.not_true, sNil]
  unfold b_check_cast
  rw [sSeq_nx c1]
  refine for_eq (ds := enD (c.map ePr)) (x1 := row0) ?_ ?_
  · simp only [fEn, vV (show [FSl.va (eCa c), .no, .no][0]? = some (.va (eCa c)) from rfl)]; rfl
  · rw [enD_map]; exact h4
/-! doings -/
abbrev Do := Int × E
end Lw
namespace Lw
open PySem RT Wb
/-! letters -/
abbrev Bx := Int × Int × List Int
def BxOk (b : Bx) : Prop := (0 ≤ b.1 ∧ b.1 ≤ 3) ∧ (0 ≤ b.2.1 ∧ b.2.1 ≤ 3) ∧ 1 ≤ b.2.2.length ∧ b.2.2.length ≤ 3
structure LsOk (ls : List Bx) : Prop where
  nd : (ls.map fun b => (b.1, b.2.1)).Nodup
  b : ∀ b ∈ ls, BxOk b
theorem pig16 {l : List (Int × Int)} (nd : l.Nodup) (h : ∀ p ∈ l, (0 ≤ p.1 ∧ p.1 ≤ 3) ∧ (0 ≤ p.2 ∧ p.2 ≤ 3)) : l.length ≤ 16 := by
  have n2 : (l.map fun p => p.1 * 4 + p.2).Nodup := by
    refine List.Pairwise.imp (R := fun x y => x ≠ y) (fun h => h) ?_
    rw [List.pairwise_map]
    refine List.Pairwise.imp_of_mem (R := fun p q => p ≠ q) (fun {p q} hp hq ne e => ne ?_) nd
    have := h p hp
    have := h q hq
    exact Prod.ext (by omega) (by omega)
  have := Bf.pig 16 _ n2 fun x hx => by
    obtain ⟨p, hp, rfl⟩ := List.mem_map.mp hx
    have := h p hp
    omega
  rwa [List.length_map] at this
theorem LsOk.len {ls : List Bx} (h : LsOk ls) : ls.length ≤ 16 := by
  have := pig16 h.nd fun p hp => by
    obtain ⟨b, hb, rfl⟩ := List.mem_map.mp hp
    have := h.b b hb
    exact ⟨this.1, this.2.1⟩
  rwa [List.length_map] at this
/-! letters behind a doing -/
end Lw
namespace Lw
open PySem RT Wb
theorem fIf_t {t : FT} {f g : FE} {env : FEn} {x : FRow} {r : Option (D × FRow)} (h : t env x = some (true, x)) (hr : f env x = r) : fIf t f g env x = r := by simp only [fIf, h, hr]
theorem fIf_f {t : FT} {f g : FE} {env : FEn} {x : FRow} {r : Option (D × FRow)} (h : t env x = some (false, x)) (hr : g env x = r) : fIf t f g env x = r := by simp only [fIf, h, hr]
end Lw
namespace Lw
open PySem RT Wb
end Lw
namespace Lw
open PySem RT Wb
/-! dicts of pairs -/
/-! the steps of a position -/
end Lw
namespace Lw
open PySem RT Wb
/-! views -/
def evOf (r : List Do) (a : Int) : List E := (r.filter fun d => decide (d.1 = a)).map (·.2)
/-! how many events are done -/
def dnAt (dn : List Int) (a : Int) : Int := (dn[a.toNat]?).getD 0
def snAt (sn : List (List E)) (a : Int) : List E := (sn[a.toNat]?).getD []
def dn1 (sn : List (List E)) (dn : List Int) (g : Bool) (a : Int) (e : E) : Option Bool :=
  if dnAt dn a = ((snAt sn a).length : Int) then (if g then some false else none) else if (snAt sn a)[(dnAt dn a).toNat]? = some e then some true else none
end Lw
namespace Lw
open PySem RT Wb
variable {n : Int} {ss : List Sc} {sn : List (List E)}
theorem brs_ok (k : Ok n ss) {v : Int} (hv : Rg ss v) {b : Br} (hb : b ∈ brs ss v) : (0 ≤ spk (scAt ss v) ∧ spk (scAt ss v) < n) ∧ (0 ≤ b.1 ∧ b.1 < n) ∧ b.1 ≠ spk (scAt ss v) ∧ Rg ss b.2.2 ∧ (0 ≤ b.2.1 ∧ b.2.1 ≤ 5) := by
  obtain ⟨h1, h2⟩ := spk_ok k hv hb
  exact ⟨h1, h2.h, h2.ne, h2.t, h2.w⟩
/-! how many there may be -/
end Lw
namespace Lw
open PySem RT Wb
variable {n : Int} {ss : List Sc}
/-! the bound of walks along views -/
/-! ways -/
abbrev Tl := Int × Int × Int
def wayR (ts : List Tl) : List Do := ts.flatMap fun t => [(t.1, true, t.2.1, t.2.2), (t.2.1, false, t.1, t.2.2)]
end Lw
namespace Lw
open PySem RT Wb
variable {n : Int} {ss : List Sc} {sn : List (List E)}
structure Fit (sn : List (List E)) (g : Bool) (ts : List Tl) : Prop where
  p : ∀ a : Int, 0 ≤ a → a < (sn.length : Int) → snAt sn a <+: evOf (wayR ts) a
  w : g = false → ∀ a : Int, 0 ≤ a → a < (sn.length : Int) → snAt sn a = evOf (wayR ts) a
end Lw
namespace Lw
open PySem RT Wb
variable {n : Int} {ss : List Sc} {a : Int}
theorem ixA_lt {α : Type} [DecidableEq α] {L : List α} {b : α} (h : b ∈ L) : ixA L b < L.length := List.idxOf_lt_length_iff.mpr h
/-! the parts cut out of a script -/
def cutP (ss : List Sc) (a : Int) : Prt := (TH ss a).map fun l => (dnB ss a l, (nx ss a l).map fun p => (p.1, ((ixA (TH ss a) p.2 : Nat) : Int)))
theorem cutD_P (ss : List Sc) (a : Int) : cutD ss a = ePr (cutP ss a) := by
  unfold cutD cutP ePr
  rw [List.map_map]
  refine congrArg D.tuple (List.map_congr_left fun l _ => ?_)
  show rowL ss a (TH ss a) l = eSa (dnB ss a l, (nx ss a l).map fun p => (p.1, ((ixA (TH ss a) p.2 : Nat) : Int)))
  unfold rowL eSa
  rw [List.map_map]; rfl
theorem th_cl (k : Ok n ss) (h6 : ss.length ≤ 6) {l : List Int} (hl : l ∈ TH ss a) : ∀ p ∈ nx ss a l, p.2 ∈ TH ss a := by
  have g := (th_grn (a := a) k h6).1
  obtain ⟨i, hi, e⟩ := List.getElem_of_mem hl
  exact g.cl i l hi (by rw [List.getElem?_eq_getElem hi, e])
theorem th_hd (k : Ok n ss) (h6 : ss.length ≤ 6) : (TH ss a).head? = some (a0 ss a) := (th_grn (a := a) k h6).1.hd
theorem th_pos (k : Ok n ss) (h6 : ss.length ≤ 6) : 1 ≤ (TH ss a).length := by
  have := th_hd (a := a) k h6
  cases h : TH ss a with
  | nil => rw [h] at this; cases this
  | cons x l => simp
theorem nx_mem {l : List Int} {p : E × List Int} : p ∈ nx ss a l ↔ p.1 ∈ (met ss a l).map (·.1) ∧ p.2 = cl ss a (look (met ss a l) p.1) := by
  unfold nx
  constructor
  · intro h
    obtain ⟨e, he, rfl⟩ := List.mem_map.mp h
    exact ⟨(srtE_perm _).mem_iff.mp he, rfl⟩
  · rintro ⟨h1, h2⟩
    exact List.mem_map.mpr ⟨p.1, (srtE_perm _).mem_iff.mpr h1, Prod.ext rfl h2.symm⟩
theorem pr_cut (k : Ok n ss) (h6 : ss.length ≤ 6) : PrOk (cutP ss a) where
  n := by
    have h1 := th_pos (a := a) k h6
    have h2 := th_len (a := a) k h6
    unfold cutP
    rw [List.length_map]; omega
  s := fun s hs => by
    unfold cutP at hs
    obtain ⟨l, hl, rfl⟩ := List.mem_map.mp hs
    have hp := th_ps k h6 l hl
    have hnx := nx_len (a := a) k hp
    refine ⟨by rw [List.length_map]; omega, fun p hp' => ?_, fun p hp' => ?_, ?_⟩
    · obtain ⟨q, hq, rfl⟩ := List.mem_map.mp hp'
      exact met_key_ok k (ps_in hp) q.1 (nx_mem.mp hq).1
    · obtain ⟨q, hq, rfl⟩ := List.mem_map.mp hp'
      have := ixA_lt (th_cl k h6 hl q hq)
      unfold cutP
      rw [List.length_map]
      simp only; omega
    · rw [List.pairwise_map]
      unfold nx
      rw [List.pairwise_map]
      exact srtE_asc (met_key_ok k (ps_in hp)) (met_nd l)
theorem ev_who (k : Ok n ss) {l : List Int} (hl : ∀ v ∈ l, Rg ss v) {e : E} (he : e ∈ (met ss a l).map (·.1)) : 0 ≤ e.2.1 ∧ e.2.1 < n ∧ e.2.1 ≠ a := by
  unfold met at he
  rw [metF_key] at he
  simp only [List.map_nil, List.not_mem_nil, false_or] at he
  obtain ⟨p, hp, rfl⟩ := List.mem_map.mp he
  unfold evs at hp
  obtain ⟨v, hv, hp⟩ := List.mem_flatMap.mp hp
  obtain ⟨b, hb, e⟩ := List.mem_filterMap.mp hp
  obtain ⟨h1, h2, h3, h4, h5⟩ := brs_ok k (hl v hv) hb
  unfold ev1 at e
  cases hev : evB ss a v b with
  | none => rw [hev] at e; cases e
  | some x =>
    rw [hev] at e
    simp only [Option.map_some, Option.some.injEq] at e
    subst e
    simp only
    unfold evB ev at hev
    split at hev
    · rename_i c
      cases hev
      exact ⟨h2.1, h2.2, by rw [c]; exact h3⟩
    · split at hev
      · rename_i c1 c2
        cases hev
        exact ⟨h1.1, h1.2, fun z => c1 z.symm⟩
      · cases hev
def castP (N : Nat) (ss : List Sc) : List Prt := (List.range N).map fun (i : Nat) => cutP ss i
theorem castP_len (N : Nat) : (castP N ss).length = N := by simp [castP]
theorem castP_at {N i : Nat} (h : i < (castP N ss).length) : (castP N ss)[i] = cutP ss i := by simp [castP]
theorem castD_P (N : Nat) : D.tuple ((actorsL N).map (cutD ss)) = eCa (castP N ss) := by
  unfold actorsL eCa castP
  rw [List.map_map, List.map_map]
  exact congrArg D.tuple (List.map_congr_left fun i _ => cutD_P ss i)
theorem ca_cut (k : Ok n ss) (h6 : ss.length ≤ 6) {N : Nat} (hN : n = (N : Int)) : CaOk (castP N ss) where
  n := by rw [castP_len]; have := k.n2; omega
  p := fun ps hps => by
    obtain ⟨i, _, rfl⟩ := List.mem_map.mp hps
    exact pr_cut k h6
  o := fun i hi s hs p hp => by
    rw [castP_at hi] at hs
    rw [castP_len]
    unfold cutP at hs
    obtain ⟨l, hl, rfl⟩ := List.mem_map.mp hs
    obtain ⟨q, hq, rfl⟩ := List.mem_map.mp hp
    have := ev_who k (ps_in (th_ps k h6 l hl)) (nx_mem.mp hq).1
    rw [hN] at this; exact this
end Lw
namespace Lw
open PySem RT Wb
/-! tests of a law -/
end Lw
namespace Lp
open PySem RT Wb6 Lw
variable {ps qs : List StT}
/-! one state of a part changed -/
def In (ps : List StT) (v : Int) : Prop := 0 ≤ v ∧ v < (ps.length : Int)
def setS (ps : List StT) (v : Int) (s : StT) : List StT := ps.set v.toNat s
theorem setS_len {v : Int} {s : StT} : (setS ps v s).length = ps.length := by simp [setS]
theorem setS_in {v u : Int} {s : StT} : In (setS ps v s) u ↔ In ps u := by unfold In; rw [setS_len]
theorem setS_self {v : Int} (hv : In ps v) {s : StT} : staAt (setS ps v s) v = s := by
  have h1 := hv.1
  have h2 := hv.2
  unfold staAt setS
  rw [List.getElem?_set_self (by omega)]; rfl
theorem setS_ok (h : POk ps) {v : Int} {s : StT} (so : StOk ps.length s) : POk (setS ps v s) where
  n := by rw [setS_len]; exact h.n
  s := fun t ht => by
    rw [setS_len]
    rcases List.mem_or_eq_of_mem_set ht with ht | rfl
    · exact h.s t ht
    · exact so
theorem setS_id {v : Int} (hv : In ps v) : setS ps v (staAt ps v) = ps := by
  have e := (staAt_mem hv.1 hv.2).1
  have hl : v.toNat < ps.length := by have := hv.1; have := hv.2; omega
  rw [List.getElem?_eq_getElem hl] at e
  unfold setS
  rw [← Option.some.inj e]
  exact List.set_getElem_self hl
theorem setS_twice {v : Int} {s t : StT} : setS (setS ps v s) v t = setS ps v t := by simp [setS, List.set_set]
theorem sta_ok' (h : POk ps) {v : Int} (hv : In ps v) : StOk ps.length (staAt ps v) := h.s _ (staAt_mem hv.1 hv.2).2
theorem find_some_iff {st : List (Mk × Int)} {m : Mk} : (st.find? fun p => decide (p.1 = m)).isSome = true ↔ m ∈ st.map (·.1) := by
  rw [List.find?_isSome]
  constructor
  · rintro ⟨p, hp, e⟩
    exact List.mem_map.mpr ⟨p, hp, by simpa using e⟩
  · intro hm
    obtain ⟨p, hp, rfl⟩ := List.mem_map.mp hm
    exact ⟨p, hp, by simp⟩
theorem cat_TT {xs ys : List D} (h : xs.length + ys.length ≤ maxLen) : gAdd (.tuple xs) (.tuple ys) = some (.tuple (xs ++ ys)) := by
  simp only [gAdd, gOr, gAddI, gI, gCatT, if_pos h]
theorem len_pa (ps : List StT) : gLen [ePa ps] = some (.int (ps.length : Nat)) := by simp [gLen, ePa]
theorem in_nat {v : Int} (h : In ps v) : v = (v.toNat : Int) ∧ v.toNat < ps.length := by have h1 := h.1; have h2 := h.2; omega
theorem ix_nat (n d k : Nat) (h : k ≤ n) : HT.sIx n d (some (k : Int)) = k := by
  simp only [HT.sIx]
  rw [if_neg (by omega), Int.toNat_natCast]; omega
theorem cut_to {α : Type} (xs : List α) (k : Nat) (h : k ≤ xs.length) : cutL xs none (some (k : Int)) = xs.take k := by
  unfold cutL
  rw [ix_nat _ _ _ h]; rfl
theorem cut_from {α : Type} (xs : List α) (k : Nat) (h : k ≤ xs.length) : cutL xs (some (k : Int)) none = xs.drop k := by
  unfold cutL
  rw [ix_nat _ _ _ h]
  show (xs.drop k).take (xs.length - k) = _
  rw [List.take_of_length_le (by simp)]
theorem sl_to {f g : FE} {env : FEn} {x : FRow} {xs : List D} {k : Nat} (hf : f env x = some (.tuple xs, x)) (hg : g env x = some (.int (k : Int), x)) (hk : k ≤ xs.length) : fSl f oNone (oSome g) env x = some (.tuple (xs.take k), x) := by
  simp only [fSl, hf, oNone, oSome, hg, gSl, cut_to _ _ hk]
theorem sl_from {f g : FE} {env : FEn} {x : FRow} {xs : List D} {k : Nat} (hf : f env x = some (.tuple xs, x)) (hg : g env x = some (.int (k : Int), x)) (hk : k ≤ xs.length) : fSl f (oSome g) oNone env x = some (.tuple (xs.drop k), x) := by
  simp only [fSl, hf, oNone, oSome, hg, gSl, cut_from _ _ hk]
theorem eqv_key (a b : L2.Key) : PyData.eqv (keyD a).py (keyD b).py = decide (a = b) := by
  cases a <;> cases b <;> simp [keyD, D.py, PyData.eqv] <;> first | rfl | (rw [Bool.eq_iff_iff]; simp)
theorem eqv_map {α : Type} [DecidableEq α] {enc : α → D} (h : ∀ a b, PyData.eqv (enc a).py (enc b).py = decide (a = b)) : ∀ l m : List α, PyData.eqvAll (pyAll (l.map enc)) (pyAll (m.map enc)) = decide (l = m)
  | [], [] => by simp [pyAll, PyData.eqvAll]
  | [], b :: m => by simp [pyAll, PyData.eqvAll]
  | a :: l, [] => by simp [pyAll, PyData.eqvAll]
  | a :: l, b :: m => by
    rw [List.map_cons, List.map_cons, pyAll, pyAll, PyData.eqvAll, h a b, eqv_map h l m, ← Bool.decide_and]
    simp only [List.cons.injEq]
/-- values[:at] + (value,) + values[at + 1:] -/
theorem repl_fe {f g g' h : FE} {env : FEn} {x : FRow} {xs : List D} {d : D} {k : Nat} (hf : f env x = some (.tuple xs, x)) (hg : g env x = some (.int (k : Int), x)) (hg' : g' env x = some (.int (k : Int), x)) (hh : h env x = some (d, x)) (hk : k < xs.length) (hl : xs.length ≤ 1000) :
    fBin gAdd (fBin gAdd (fSl f oNone (oSome g)) (fTup (aCons h aNil))) (fSl f (oSome (fBin gAdd g' (fC (.int 1)))) oNone) env x = some (.tuple (xs.set k d), x) := by
  have c1 := sl_to hf hg (by omega)
  have c2 : fTup (aCons h aNil) env x = some (.tuple [d], x) := fTup_ok (aC1 hh) one_ml
  have q : fBin gAdd g' (fC (.int 1)) env x = some (.int ((k + 1 : Nat) : Int), x) := fB hg' rfl (by show some (D.int ((k : Int) + 1)) = _; congr 2)
  have c3 := sl_from hf q (by omega)
  have l1 : (xs.take k).length + [d].length ≤ maxLen := by rw [List.length_take, List.length_singleton]; exact ml _ (by omega)
  have l2 : (xs.take k ++ [d]).length + (xs.drop (k + 1)).length ≤ maxLen := by
    rw [List.length_append, List.length_take, List.length_drop, List.length_singleton]; exact ml _ (by omega)
  have := fB (fB c1 c2 (cat_TT l1)) c3 (cat_TT l2)
  rw [this, List.set_eq_take_append_cons_drop, if_pos hk, List.append_assoc]; rfl
theorem replaced_D {xs : List D} {d : D} {k : Nat} (hk : k < xs.length) (hl : xs.length ≤ 1000) : m_replaced [.tuple xs, .int (k : Int), d] = some (.tuple (xs.set k d)) := by
  refine mkF_rt (x := row0) rfl ?_
  show b_replaced [.va (.tuple xs), .va (.int (k : Int)), .va d] row0 = _
  unfold b_replaced
  exact sR (repl_fe (f := fBor 0) (vB rfl) (vV rfl) (vB rfl) (vV rfl) hk hl)
theorem replaced_eq (h : POk ps) {v : Int} (hv : In ps v) {s : StT} : m_replaced [ePa ps, .int v, eSta s] = some (ePa (setS ps v s)) := by
  have hn := h.n
  obtain ⟨ev, hl⟩ := in_nat hv
  unfold setS ePa
  rw [List.map_set]
  generalize v.toNat = k at ev hl
  subst ev
  exact replaced_D (by rw [List.length_map]; exact hl) (by rw [List.length_map]; omega)
theorem check_state_ok (h : POk ps) {v : Int} (hv : In ps v) : m_check_state_of [ePa ps, .int v] = some .none := by
  refine mkF_nx (e := [.va (ePa ps), .va (.int v)]) (x := row0) rfl ?_
  show b_check_state_of [.va (ePa ps), .va (.int v)] row0 = _
  unfold b_check_state_of
  rw [sSeq_nx (dropP h)]
  have := fK (x := row0) (env := [.va (ePa ps), .va (.int v)]) (aC3 (vV (i := 1) rfl) (show fC (.int 0) _ _ = some (.int 0, row0) from rfl) (fB (gd := gSubI) (fK (aC1 (vB (i := 0) rfl)) (len_pa ps)) (show fC (.int 1) _ _ = some (.int 1, row0) from rfl) (r := .int (((ps.length : Nat) : Int) - 1)) rfl)) (check_number_ok ⟨hv.1, by have := hv.2; omega⟩)
  simp only [sDrop, this]
theorem dropS (h : POk ps) {v : Int} (hv : In ps v) {rest : List FSl} {x : FRow} : sDrop (fCall m_check_state_of (aCons (fVar 0) (aCons (fVar 1) aNil))) (.va (ePa ps) :: .va (.int v) :: rest) x = some (.nx (.va (ePa ps) :: .va (.int v) :: rest), x) := by
  have := fK (x := x) (env := .va (ePa ps) :: .va (.int v) :: rest) (aC2 (vV (i := 0) rfl) (vV (i := 1) rfl)) (check_state_ok h hv)
  simp only [sDrop, this]
theorem check_event_ok {m : Mk} (h : evOk m) : m_check_event [mD m] = some .none := by
  refine mkF_nx (e := [.va (mD m)]) (x := row0) rfl ?_
  show b_check_event [.va (mD m)] row0 = _
  have := fK (x := row0) (env := [.va (mD m)]) (aC1 (vV (i := 0) rfl)) (is_event_ok h)
  simp only [b_check_event, sIf, tNotF, fTru, this, truD, Bool.not_true, sNil]
theorem sta_at (h : POk ps) {v : Int} (hv : In ps v) {f g : FE} {env : FEn} {x : FRow} (hf : f env x = some (ePa ps, x)) (hg : g env x = some (.int v, x)) : fBin gAt f g env x = some (eSta (staAt ps v), x) := fB hf hg (ePa_at hv.1 hv.2)
theorem restS_eq (h : POk ps) {v : Int} (hv : In ps v) (b : Bool) : m_resting [ePa ps, .int v, .bool b] = some (ePa (setS ps v (b, (staAt ps v).2))) := by
  refine mkF_rt (x := row0) rfl ?_
  show b_resting [.va (ePa ps), .va (.int v), .va (.bool b), .no, .no] row0 = _
  have c2 : sIf (tNotF (fTru (fIsi .bool (fBor 2)))) sNo sNil [.va (ePa ps), .va (.int v), .va (.bool b), .no, .no] row0 = some (.nx [.va (ePa ps), .va (.int v), .va (.bool b), .no, .no], row0) := by
    simp [sIf, tNotF, fTru, fIsi, fBor, isiD, truD, sNil]
  have c3 : sUnp (fBin gAt (fBor 0) (fBor 1)) (gtTup 2 (gtCons (gtName 3) (gtCons (gtName 4) gtNil))) [.va (ePa ps), .va (.int v), .va (.bool b), .no, .no] row0 = some (.nx [.va (ePa ps), .va (.int v), .va (.bool b), .va (.bool (staAt ps v).1), .va (.tuple ((staAt ps v).2.map eSt))], row0) := by
    simp only [sUnp, sta_at (x := row0) h hv (vB (i := 0) (env := [.va (ePa ps), .va (.int v), .va (.bool b), .no, .no]) rfl) (vB (i := 1) rfl)]
    rfl
  unfold b_resting
  rw [sSeq_nx (dropS h hv), sSeq_nx c2, sSeq_nx c3]
  exact sR (fK (aC3 (vV rfl) (vV rfl) (fTup_ok (aC2 (vV rfl) (vV rfl)) two_ml)) (replaced_eq h hv (s := (b, (staAt ps v).2))))
theorem dcT_st {s : StT} (he : ∀ p ∈ s.2, evOk p.1) {x : FRow} : ∀ (st acc : List (Mk × Int)), (∀ p ∈ st, evOk p.1) → ((acc ++ st).map (·.1)).Nodup → acc.length + st.length ≤ 1000 →
    dcLT (gtName 3) tYesF (fSl (fBor 3) oNone (oSome (fC (.int 3)))) (fBin gAt (fBor 3) (fC (.int 3))) [.va (eSta s), .va (.bool s.1), .va (.tuple (s.2.map eSt)), .no] (st.map eSt) (dcD acc) x = some (dcD (acc ++ st), x)
  | [], acc, _, _, _ => by simp [dcLT]
  | p :: st, acc, h, nd, hl => by
    simp only [List.length_cons] at hl
    have ih := dcT_st he (x := x) st (acc ++ [p]) (fun q hq => h q (by simp [hq])) (by simpa using nd) (by simp; omega)
    have hp := h p (by simp)
    rw [List.map_cons, dcLT, show gtName 3 (eSt p) [.va (eSta s), .va (.bool s.1), .va (.tuple (s.2.map eSt)), .no] = some [.va (eSta s), .va (.bool s.1), .va (.tuple (s.2.map eSt)), .va (eSt p)] from rfl]
    have k1 := sl3 hp (f := fBor 3) (env := [.va (eSta s), .va (.bool s.1), .va (.tuple (s.2.map eSt)), .va (eSt p)]) (x := x) (vB rfl)
    have k2 : fBin gAt (fBor 3) (fC (.int 3)) [.va (eSta s), .va (.bool s.1), .va (.tuple (s.2.map eSt)), .va (eSt p)] x = some (.int p.2, x) := fB (vB rfl) rfl (eSt_3 hp)
    have hle : (dcD acc).length < maxLen := by rw [dcD, List.length_map]; exact nob_n (by omega)
    simp only [tYesF, k1, dKeyT_m, k2, if_pos hle]
    rw [put_new (st := st) (fun q hq e => by
      rw [List.map_append, List.nodup_append] at nd
      exact nd.2.2 q.1 (List.mem_map.mpr ⟨q, hq, rfl⟩) p.1 (by simp) e), ih]
    simp
theorem behind_ev_eq {n : Nat} {s : StT} (so : StOk n s) : m_behind_events [eSta s] = some (.dictT (dcD s.2)) := by
  refine mkF_rt (x := row0) rfl ?_
  have c1 : sUnp (fVar 0) (gtTup 2 (gtCons (gtName 1) (gtCons (gtName 2) gtNil))) [.va (eSta s), .no, .no, .no] row0 = some (.nx [.va (eSta s), .va (.bool s.1), .va (.tuple (s.2.map eSt)), .no], row0) := rfl
  show b_behind_events [.va (eSta s), .no, .no, .no] row0 = _
  unfold b_behind_events
  rw [sSeq_nx c1]
  have d := dcT_st so.e (x := row0) s.2 [] so.e (by simpa using asc_nd so.a) (by have := so.l; simp; omega)
  refine sR ?_
  have f1 : fSeq (fVar 2) [.va (eSta s), .va (.bool s.1), .va (.tuple (s.2.map eSt)), .no] row0 = some (s.2.map eSt, row0) := sqT (vV rfl)
  simp only [fOfX, xDcT, f1]
  rw [show wipeE [.va (eSta s), .va (.bool s.1), .va (.tuple (s.2.map eSt)), .no] [3] = [.va (eSta s), .va (.bool s.1), .va (.tuple (s.2.map eSt)), .no] from rfl, show ([] : List (D × D)) = dcD [] from rfl, d]
  rfl
theorem get_st (st : List (Mk × Int)) (m : Mk) : gDGet (.dictT (dcD st)) (mD m) = some ((st.find? fun p => decide (p.1 = m)).map fun p => D.int p.2) := by
  simp only [gDGet, dKeyT_m, val_st st m]
theorem eqD_mk (a b : Mk) : eqD (mD a) (mD b) = decide (a = b) := by
  unfold eqD mD
  rw [D.py, D.py, PyData.eqv, eqv_map eqv_key]
theorem ne_mk {a b : Mk} (ha : evOk a) (hb : evOk b) : gNe (mD a) (mD b) = some (.bool (!decide (a = b))) := by
  unfold gNe
  rw [(pt_m ha.mok (by decide)).sh (by omega), (pt_m hb.mok (by decide)).sh (by omega), eqD_mk]; rfl
theorem tst_b {f : FE} {env : FEn} {x x1 : FRow} {b : Bool} (h : f env x = some (.bool b, x1)) : fTst f env x = some (b, x1) := by
  simp only [fTst, h]
/-! events as codes, and their sorting -/
theorem ev_E {m : Mk} (h : evOk m) : ∃ e : E, m = mE e ∧ EOk e := by
  obtain ⟨k, o, w, rfl, hk, ho, hw⟩ := h
  rcases hk with rfl | rfl
  · exact ⟨(false, o, w), rfl, ho, hw⟩
  · exact ⟨(true, o, w), rfl, ho, hw⟩
def cM : Mk → Int
  | [.inr k, .inl o, .inl w] => (if k = sayS then 100 else 0) + o * 8 + w
  | _ => 0
theorem cM_E (e : E) : cM (mE e) = cE e := by
  obtain ⟨k, o, w⟩ := e
  have : ¬ (Str.ofString "hear" : Str) = Str.ofString "say" := by decide +kernel
  cases k
  · show (if (Str.ofString "hear" : Str) = sayS then (100 : Int) else 0) + o * 8 + w = _
    rw [if_neg this]; rfl
  · show (if (Str.ofString "say" : Str) = sayS then (100 : Int) else 0) + o * 8 + w = _
    rw [if_pos rfl]; rfl
theorem cM_inj {a b : Mk} (ha : evOk a) (hb : evOk b) (h : cM a = cM b) : a = b := by
  obtain ⟨e, rfl, ea⟩ := ev_E ha
  obtain ⟨f, rfl, eb⟩ := ev_E hb
  rw [cM_E, cM_E] at h
  rw [cE_inj ea eb h]
theorem mlt_c {a b : Mk} (ha : evOk a) (hb : evOk b) : mlt a b ↔ cM a < cM b := by
  obtain ⟨e, rfl, ea⟩ := ev_E ha
  obtain ⟨f, rfl, eb⟩ := ev_E hb
  rw [cM_E, cM_E]
  have h1 := leD_c eb ea
  have h2 : leD (eE f) (eE e) = !PySem.W.dataLt (mD (mE e)).py (mD (mE f)).py := rfl
  rw [h2] at h1
  constructor
  · intro h
    rw [h.1] at h1
    have : decide (cE f ≤ cE e) = false := h1.symm
    simpa using this
  · intro h
    refine ⟨?_, ?_⟩
    · have : decide (cE f ≤ cE e) = false := by simpa using h
      rw [this] at h1
      simpa using h1
    · have ne : mE e ≠ mE f := fun z => by rw [mE_inj z] at h; omega
      unfold mD
      simp only [D.py, PyData.eqv]
      rw [eqv_map eqv_key]
      exact decide_eq_false ne
theorem leD_refl' (p : Mk × Int) : leD (eSt p) (eSt p) = true := by
  unfold leD
  rw [show PySem.W.dataLt (eSt p).py (eSt p).py = false from PyProof.Rows.lex_irrefl _]; rfl
theorem leD_p {p q : Mk × Int} (hp : evOk p.1) (hq : evOk q.1) (hn : p.1 = q.1 → p = q) : leD (eSt p) (eSt q) = decide (cM p.1 ≤ cM q.1) := by
  by_cases c : p.1 = q.1
  · have := hn c
    subst this
    simp [leD_refl' p]
  · have e := eSt_lt (p := q) (q := p) (hq.mok.1.trans hp.mok.1.symm) (fun z => c z.symm)
    unfold leD
    rw [e]
    have h1 : mlt q.1 p.1 ↔ cM q.1 < cM p.1 := mlt_c hq hp
    by_cases d : cM q.1 < cM p.1
    · rw [(h1.mpr d).1]
      have : ¬ cM p.1 ≤ cM q.1 := by omega
      simp [this]
    · have ne : cM p.1 ≠ cM q.1 := fun z => c (cM_inj hp hq z)
      have d' : cM p.1 < cM q.1 := by omega
      rw [mlt_asym ((mlt_c hp hq).mpr d')]
      have : cM p.1 ≤ cM q.1 := by omega
      simp [this]
end Lp
namespace Lp
open PySem RT Wb6 Lw
variable {ps qs : List StT}
theorem asc_uniq {α : Type} (f : α → Int) : ∀ {l m : List α}, l.Pairwise (fun a b => f a < f b) → m.Pairwise (fun a b => f a < f b) → (∀ a, a ∈ l ↔ a ∈ m) → l = m
  | [], [], _, _, _ => rfl
  | [], b :: m, _, _, h => by have := (h b).mpr (by simp); cases this
  | a :: l, [], _, _, h => by have := (h a).mp (by simp); cases this
  | a :: l, b :: m, hl, hm, h => by
    rw [List.pairwise_cons] at hl hm
    have e : a = b := by
      rcases List.mem_cons.mp ((h a).mp (by simp)) with e | h1
      · exact e
      · rcases List.mem_cons.mp ((h b).mpr (by simp)) with e | h2
        · exact e.symm
        · have := hl.1 b h2; have := hm.1 a h1; omega
    subst e
    rw [asc_uniq f hl.2 hm.2 fun c => ?_]
    have q := h c
    simp only [List.mem_cons] at q
    constructor
    · intro hc
      rcases q.mp (.inr hc) with e | hc'
      · subst e; have := hl.1 c hc; omega
      · exact hc'
    · intro hc
      rcases q.mpr (.inr hc) with e | hc'
      · subst e; have := hm.1 c hc; omega
      · exact hc'
def srt (l : List (Mk × Int)) : List (Mk × Int) := l.mergeSort fun p q => decide (cM p.1 ≤ cM q.1)
theorem srt_perm (l : List (Mk × Int)) : (srt l).Perm l := List.mergeSort_perm _ _
theorem key_inj {l : List (Mk × Int)} (nd : (l.map (·.1)).Nodup) {p q : Mk × Int} (hp : p ∈ l) (hq : q ∈ l) (e : p.1 = q.1) : p = q := by
  have hn := List.pairwise_map.mp nd
  obtain ⟨i, hi, rfl⟩ := List.getElem_of_mem hp
  obtain ⟨j, hj, rfl⟩ := List.getElem_of_mem hq
  have hn := List.pairwise_iff_getElem.mp hn
  rcases Nat.lt_trichotomy i j with h | h | h
  · exact absurd e (hn i j hi hj h)
  · subst h; rfl
  · exact absurd e.symm (hn j i hj hi h)
theorem srt_asc {l : List (Mk × Int)} (he : ∀ p ∈ l, evOk p.1) (nd : (l.map (·.1)).Nodup) : (srt l).Pairwise fun p q => cM p.1 < cM q.1 := by
  have s1 := List.pairwise_mergeSort (le := fun p q : Mk × Int => decide (cM p.1 ≤ cM q.1)) (by intro a b c; simp only [decide_eq_true_eq]; omega) (by intro a b; simp only [Bool.or_eq_true, decide_eq_true_eq]; omega) l
  have n0 : l.Nodup := by
    have := List.pairwise_map.mp nd
    exact this.imp fun h e => h (congrArg _ e)
  have n1 : (srt l).Nodup := (srt_perm l).nodup_iff.mpr n0
  refine (s1.and n1).imp_of_mem fun {p q} hp hq h => ?_
  have hp := (srt_perm l).mem_iff.mp hp
  have hq := (srt_perm l).mem_iff.mp hq
  have le : cM p.1 ≤ cM q.1 := by simpa using h.1
  have ne : cM p.1 ≠ cM q.1 := fun z => h.2 (key_inj nd hp hq (cM_inj (he p hp) (he q hq) z))
  omega
theorem sortV_st {l : List (Mk × Int)} (he : ∀ p ∈ l, evOk p.1) (nd : (l.map (·.1)).Nodup) (hl : l.length ≤ 100) : gSortV [.tuple (l.map eSt)] = some (.list ((srt l).map eSt)) := by
  have h1 : shapedD (.list (l.map eSt)) = true := (pt_list (k := 1) (by rw [List.length_map]; omega) fun d hd => by
    obtain ⟨p, hp, rfl⟩ := List.mem_map.mp hd
    exact pt_eSt (he p hp)).sh (by omega)
  have h2 : sortableB (l.map eSt) = true := by
    unfold sortableB
    rw [List.all_eq_true]
    intro d hd
    obtain ⟨p, hp, rfl⟩ := List.mem_map.mp hd
    obtain ⟨k, o, w, e, _⟩ := he p hp
    simp [eSt, e]
  have h3 : alikeB (l.map eSt) = true := alikeB_of fun p hp q hq => eSt_alike ((he p hp).mok.1.trans (he q hq).mok.1.symm)
  have h4 : (l.map eSt).length ≤ maxLen := ml _ (by rw [List.length_map]; omega)
  have hd : gSortD [.list (l.map eSt)] = some (.list ((srt l).map eSt)) := by
    simp only [gSortD, h1, h2, h3, Bool.and_self, Bool.true_and, decide_eq_true_eq, if_pos h4]
    congr 2
    exact (List.map_mergeSort (r := fun p q => decide (cM p.1 ≤ cM q.1)) (s := leD) (f := eSt) (l := l) fun p hp q hq => (leD_p (he p hp) (he q hq) (key_inj nd hp hq)).symm).symm
  have hx : gSortX [.tuple (l.map eSt)] = none := rfl
  simp only [gSortV, cOr, hx, gSortU, hd]
/-- the steps with one more -/
theorem ins_ok {n : Nat} {s : StT} (so : StOk n s) (h2 : s.2.length ≤ 2) {m : Mk} (hm : evOk m) (hn : m ∉ s.2.map (·.1)) {t : Int} (ht : 0 ≤ t ∧ t < (n : Int)) (b : Bool) :
    (∀ p ∈ s.2 ++ [(m, t)], evOk p.1) ∧ ((s.2 ++ [(m, t)]).map (·.1)).Nodup ∧ StOk n (b, srt (s.2 ++ [(m, t)])) ∧ (srt (s.2 ++ [(m, t)])).filter (fun p => !decide (p.1 = m)) = s.2 := by
  have he : ∀ p ∈ s.2 ++ [(m, t)], evOk p.1 := fun p hp => by
    rcases List.mem_append.mp hp with hp | hp
    · exact so.e p hp
    · rw [List.mem_singleton] at hp; subst hp; exact hm
  have nd : ((s.2 ++ [(m, t)]).map (·.1)).Nodup := by
    rw [List.map_append, List.nodup_append]
    refine ⟨asc_nd so.a, by simp, fun a ha b hb e => ?_⟩
    simp only [List.map_cons, List.map_nil, List.mem_singleton] at hb
    subst hb; subst e; exact hn ha
  have asc := srt_asc he nd
  refine ⟨he, nd, ⟨?_, fun p hp => he p ((srt_perm _).mem_iff.mp hp), fun p hp => ?_, ?_⟩, ?_⟩
  · show (srt _).length ≤ 3
    rw [(srt_perm _).length_eq, List.length_append, List.length_singleton]; omega
  · rcases List.mem_append.mp ((srt_perm _).mem_iff.mp hp) with hp | hp
    · exact so.t p hp
    · rw [List.mem_singleton] at hp; subst hp; exact ht
  · exact asc.imp_of_mem fun {p q} hp hq c => (mlt_c (he p ((srt_perm _).mem_iff.mp hp)) (he q ((srt_perm _).mem_iff.mp hq))).mpr c
  · refine asc_uniq (fun p => cM p.1) (asc.sublist List.filter_sublist) (so.a.imp_of_mem fun {p q} hp hq c => (mlt_c (so.e p hp) (so.e q hq)).mp c) fun p => ?_
    rw [List.mem_filter, (srt_perm _).mem_iff, List.mem_append, List.mem_singleton]
    constructor
    · rintro ⟨h | h, e⟩
      · exact h
      · subst h; simp at e
    · intro h
      refine ⟨.inl h, ?_⟩
      have : p.1 ≠ m := fun z => hn (z ▸ List.mem_map.mpr ⟨p, h, rfl⟩)
      simp [this]
/-! plus_event, without_event: what they answer, what they raise -/
theorem xSeq_nx {f : FS} {fx gx : FZs} {env e1 : FEn} {x x1 : FRow} (hx : fx env x = none) (h : f env x = some (.nx e1, x1)) : xSeq f fx gx env x = gx e1 x1 := by simp only [xSeq, hx, h]
theorem xIf_t {t : FT} {f g : FZs} {env : FEn} {x x1 : FRow} (h : t env x = some (true, x1)) : xIf t f g env x = f env x1 := by simp only [xIf, h]
abbrev NM : Er := ⟨Str.ofString "NotMade", []⟩
def pE (ps : List StT) (v : Int) (m : Mk) (t : Int) (p q : FSl) : FEn := [.va (ePa ps), .va (.int v), .va (mD m), .va (.int t), p, q]
section
variable (h : POk ps) {v : Int} (hv : In ps v) {m : Mk} (hm : evOk m) {t : Int} (ht : In ps t)
include h hv hm ht
theorem pl_1 : sDrop (fCall m_check_state_of (aCons (fVar 0) (aCons (fVar 1) aNil))) (pE ps v m t .no .no) row0 = some (.nx (pE ps v m t .no .no), row0) := dropS h hv
theorem pl_2 : sDrop (fCall m_check_event (aCons (fVar 2) aNil)) (pE ps v m t .no .no) row0 = some (.nx (pE ps v m t .no .no), row0) := by
  have := fK (x := row0) (env := pE ps v m t .no .no) (aC1 (vV (i := 2) rfl)) (check_event_ok hm)
  simp only [sDrop, this]
theorem pl_3 : sDrop (fCall m_check_number (aCons (fVar 3) (aCons (fC (.int 0)) (aCons (fBin gSubI (fCall gLen (aCons (fBor 0) aNil)) (fC (.int 1))) aNil)))) (pE ps v m t .no .no) row0 = some (.nx (pE ps v m t .no .no), row0) := by
  have := fK (x := row0) (env := pE ps v m t .no .no) (aC3 (vV (i := 3) rfl) (show fC (.int 0) _ _ = some (.int 0, row0) from rfl) (fB (gd := gSubI) (fK (aC1 (vB (i := 0) rfl)) (len_pa ps)) (show fC (.int 1) _ _ = some (.int 1, row0) from rfl) (r := .int (((ps.length : Nat) : Int) - 1)) rfl)) (check_number_ok ⟨ht.1, by have := ht.2; omega⟩)
  simp only [sDrop, this]
theorem pl_4 : sUnp (fBin gAt (fBor 0) (fBor 1)) (gtTup 2 (gtCons (gtName 4) (gtCons (gtName 5) gtNil))) (pE ps v m t .no .no) row0 = some (.nx (pE ps v m t (.va (.bool (staAt ps v).1)) (.va (.tuple ((staAt ps v).2.map eSt)))), row0) := by
  simp only [sUnp, sta_at (x := row0) h hv (vB (i := 0) (env := pE ps v m t .no .no) rfl) (vB (i := 1) rfl)]
  rfl
theorem pl_t {p q : FSl} : fTst (fBin gInA (fBor 2) (fCall m_behind_events (aCons (fBin gAt (fBor 0) (fBor 1)) aNil))) (pE ps v m t p q) row0 = some (((staAt ps v).2.find? fun p => decide (p.1 = m)).isSome, row0) := by
  refine tst_b (fB (vB rfl) (fK (aC1 (sta_at h hv (vB rfl) (vB rfl))) (behind_ev_eq (sta_ok' h hv))) ?_)
  show gDIn (mD m) (.dictT (dcD (staAt ps v).2)) = _
  simp only [gDIn, get_st, Option.isSome_map]
theorem plus_eq (h2 : (staAt ps v).2.length ≤ 2) (hn : m ∉ (staAt ps v).2.map (·.1)) : m_plus_event [ePa ps, .int v, mD m, .int t] = some (ePa (setS ps v (rests ps v, srt ((staAt ps v).2 ++ [(m, t)])))) := by
  have so := sta_ok' h hv
  obtain ⟨e1, e2, e3, e4⟩ := ins_ok so h2 hm hn ht (rests ps v)
  refine mkF_rt (x := row0) rfl ?_
  show b_plus_event (pE ps v m t .no .no) row0 = _
  have no : ((staAt ps v).2.find? fun p => decide (p.1 = m)).isSome = false := by
    cases c : ((staAt ps v).2.find? fun p => decide (p.1 = m)).isSome with
    | false => rfl
    | true => exact absurd (find_some_iff.mp c) hn
  have c5 := if_no (f := sNo) (no ▸ pl_t h hv hm ht (p := .va (.bool (staAt ps v).1)) (q := .va (.tuple ((staAt ps v).2.map eSt))))
  unfold b_plus_event
  rw [sSeq_nx (pl_1 h hv hm ht), sSeq_nx (pl_2 h hv hm ht), sSeq_nx (pl_3 h hv hm ht), sSeq_nx (pl_4 h hv hm ht), sSeq_nx c5]
  have a1 : gAdd (.tuple ((staAt ps v).2.map eSt)) (.tuple [eSt (m, t)]) = some (.tuple (((staAt ps v).2 ++ [(m, t)]).map eSt)) := by
    rw [cat_TT (by rw [List.length_map, List.length_singleton]; exact ml _ (by have := so.l; omega)), List.map_append]; rfl
  refine sR (fK (aC3 (vV rfl) (vV rfl) (fTup_ok (aC2 (vV rfl) (tupOf_ok (fK (aC1 (fB (vB rfl) (fTup_ok (aC1 (fB (vB rfl) (fTup_ok (aC1 (vV rfl)) one_ml) (eSt_cat (p := (m, t)) hm))) one_ml) a1)) (sortV_st e1 e2 (by rw [List.length_append, List.length_singleton]; omega))))) two_ml)) ?_)
  exact replaced_eq h hv (s := (rests ps v, srt ((staAt ps v).2 ++ [(m, t)])))
theorem plus_x (hn : m ∈ (staAt ps v).2.map (·.1)) : m_plus_event [ePa ps, .int v, mD m, .int t] = none ∧ mx_plus_event [ePa ps, .int v, mD m, .int t] = some NM := by
  have yes : ((staAt ps v).2.find? fun p => decide (p.1 = m)).isSome = true := find_some_iff.mpr hn
  have c5 := yes ▸ pl_t h hv hm ht (p := .va (.bool (staAt ps v).1)) (q := .va (.tuple ((staAt ps v).2.map eSt)))
  constructor
  · have : b_plus_event (pE ps v m t .no .no) row0 = none := by
      unfold b_plus_event
      rw [sSeq_nx (pl_1 h hv hm ht), sSeq_nx (pl_2 h hv hm ht), sSeq_nx (pl_3 h hv hm ht), sSeq_nx (pl_4 h hv hm ht)]
      simp only [sSeq, sIf, c5, sNo]
    show mkF 6 4 b_plus_event _ = none
    simp only [mkF, List.length_cons, List.length_nil, if_true]
    rw [show startE 6 [ePa ps, .int v, mD m, .int t] = pE ps v m t .no .no from rfl, this]
  · show bx_plus_event (pE ps v m t .no .no) row0 = _
    unfold bx_plus_event
    rw [xSeq_nx rfl (pl_1 h hv hm ht), xSeq_nx rfl (pl_2 h hv hm ht), xSeq_nx rfl (pl_3 h hv hm ht), xSeq_nx rfl (pl_4 h hv hm ht), xIf_t c5]
    rfl
end
def qE (ps : List StT) (v : Int) (m : Mk) (p q r : FSl) : FEn := [.va (ePa ps), .va (.int v), .va (mD m), p, q, r]
section
variable (h : POk ps) {v : Int} (hv : In ps v) {m : Mk} (hm : evOk m)
include h hv hm
theorem wo_1 : sDrop (fCall m_check_state_of (aCons (fVar 0) (aCons (fVar 1) aNil))) (qE ps v m .no .no .no) row0 = some (.nx (qE ps v m .no .no .no), row0) := dropS h hv
theorem wo_2 : sDrop (fCall m_check_event (aCons (fVar 2) aNil)) (qE ps v m .no .no .no) row0 = some (.nx (qE ps v m .no .no .no), row0) := by
  have := fK (x := row0) (env := qE ps v m .no .no .no) (aC1 (vV (i := 2) rfl)) (check_event_ok hm)
  simp only [sDrop, this]
theorem wo_4 : sUnp (fBin gAt (fBor 0) (fBor 1)) (gtTup 2 (gtCons (gtName 3) (gtCons (gtName 4) gtNil))) (qE ps v m .no .no .no) row0 = some (.nx (qE ps v m (.va (.bool (staAt ps v).1)) (.va (.tuple ((staAt ps v).2.map eSt))) .no), row0) := by
  simp only [sUnp, sta_at (x := row0) h hv (vB (i := 0) (env := qE ps v m .no .no .no) rfl) (vB (i := 1) rfl)]
  rfl
theorem wo_t {p q r : FSl} : fTst (fBin gNotInA (fBor 2) (fCall m_behind_events (aCons (fBin gAt (fBor 0) (fBor 1)) aNil))) (qE ps v m p q r) row0 = some (!((staAt ps v).2.find? fun p => decide (p.1 = m)).isSome, row0) := by
  refine tst_b (fB (vB rfl) (fK (aC1 (sta_at h hv (vB rfl) (vB rfl))) (behind_ev_eq (sta_ok' h hv))) ?_)
  show gDNotIn (mD m) (.dictT (dcD (staAt ps v).2)) = _
  simp only [gDNotIn, get_st, Option.isSome_map]
theorem without_eq (hin : m ∈ (staAt ps v).2.map (·.1)) : m_without_event [ePa ps, .int v, mD m] = some (ePa (setS ps v (rests ps v, (staAt ps v).2.filter fun p => !decide (p.1 = m)))) := by
  have so := sta_ok' h hv
  refine mkF_rt (x := row0) rfl ?_
  show b_without_event (qE ps v m .no .no .no) row0 = _
  have yes : ((staAt ps v).2.find? fun p => decide (p.1 = m)).isSome = true := find_some_iff.mpr hin
  have c5 := if_no (f := sNo) (yes ▸ wo_t h hv hm (p := .va (.bool (staAt ps v).1)) (q := .va (.tuple ((staAt ps v).2.map eSt))) (r := .no))
  unfold b_without_event
  rw [sSeq_nx (wo_1 h hv hm), sSeq_nx (wo_2 h hv hm), sSeq_nx (wo_4 h hv hm), sSeq_nx c5]
  have l1 : fOfX (xLc (fSeq (fVar 4)) (gtName 5) (fTst (fBin gNe (fSl (fBor 5) oNone (oSome (fC (.int 3)))) (fBor 2))) (fVar 5) [5]) (qE ps v m (.va (.bool (staAt ps v).1)) (.va (.tuple ((staAt ps v).2.map eSt))) .no) row0 = some (.list (((staAt ps v).2.filter fun p => !decide (p.1 = m)).map eSt), row0) := by
    refine lc_eq (ds := (staAt ps v).2.map eSt) (sqT (vV rfl)) (compL_gen eSt (fun p => !decide (p.1 = m)) eSt _ fun p hp => ⟨_, rfl, tst_b (fB (sl3 (so.e p hp) (vB rfl)) (vB rfl) (ne_mk (so.e p hp) hm)), fun _ => vV rfl⟩) ?_
    rw [List.length_map]
    exact nob_n (Nat.le_trans (List.length_filter_le _ _) (by have := so.l; omega))
  exact sR (fK (aC3 (vV rfl) (vV rfl) (fTup_ok (aC2 (vV rfl) (tupOf_ok l1)) two_ml)) (replaced_eq h hv (s := (rests ps v, (staAt ps v).2.filter fun p => !decide (p.1 = m)))))
theorem without_x (hn : m ∉ (staAt ps v).2.map (·.1)) : m_without_event [ePa ps, .int v, mD m] = none ∧ mx_without_event [ePa ps, .int v, mD m] = some NM := by
  have no : ((staAt ps v).2.find? fun p => decide (p.1 = m)).isSome = false := by
    cases c : ((staAt ps v).2.find? fun p => decide (p.1 = m)).isSome with
    | false => rfl
    | true => exact absurd (find_some_iff.mp c) hn
  have c5 := no ▸ wo_t h hv hm (p := .va (.bool (staAt ps v).1)) (q := .va (.tuple ((staAt ps v).2.map eSt))) (r := .no)
  constructor
  · have : b_without_event (qE ps v m .no .no .no) row0 = none := by
      unfold b_without_event
      rw [sSeq_nx (wo_1 h hv hm), sSeq_nx (wo_2 h hv hm), sSeq_nx (wo_4 h hv hm)]
      simp only [sSeq, sIf, c5, sNo, Bool.not_false]
    show mkF 6 3 b_without_event _ = none
    simp only [mkF, List.length_cons, List.length_nil, if_true]
    rw [show startE 6 [ePa ps, .int v, mD m] = qE ps v m .no .no .no from rfl, this]
  · show bx_without_event (qE ps v m .no .no .no) row0 = _
    unfold bx_without_event
    rw [xSeq_nx rfl (wo_1 h hv hm), xSeq_nx rfl (wo_2 h hv hm), xSeq_nx rfl (wo_4 h hv hm), xIf_t c5]
    rfl
end
end Lp
namespace Lp
open PySem RT Wb6 Lw
variable {ps : List StT}
theorem pt_conv : ∀ (k : Nat) {d : D}, Lp.Pt k d → Lw.Pt k d
  | 0, d, h => h
  | k + 1, d, h => by
    rcases h with h | ⟨ds, e, hl, hd⟩
    · exact .inl h
    · exact .inr ⟨ds, e, hl, fun d hd' => pt_conv k (hd d hd')⟩
theorem pt_sta {n : Nat} {s : StT} (h : StOk n s) : Lp.Pt 3 (eSta s) := Or.inr ⟨[.bool s.1, .tuple (s.2.map eSt)], Or.inl rfl, by simp, by
  intro d hd
  simp only [List.mem_cons, List.not_mem_nil, or_false] at hd
  rcases hd with rfl | rfl
  · exact Or.inl (Or.inr (Or.inr (Or.inr ⟨_, rfl⟩)))
  · refine Or.inr ⟨_, Or.inl rfl, by rw [List.length_map]; have := h.l; omega, fun d hd => ?_⟩
    obtain ⟨p, hp, rfl⟩ := List.mem_map.mp hd
    exact pt_eSt (h.e p hp)⟩
theorem pt_pa (h : POk ps) : Lw.Pt 4 (ePa ps) := pt_conv 4 (Or.inr ⟨_, Or.inl rfl, by rw [List.length_map]; have := h.n; omega, fun d hd => by
  obtain ⟨s, hs, rfl⟩ := List.mem_map.mp hd
  exact pt_sta (h.s s hs)⟩)
theorem alike_ok' {d : D} {k : Nat} (h : Lw.Pt k d) (hk : k ≤ 8) : m_law_alike 9 [d, d] = some (.bool true) := Lw.alike_ok 8 (h.le hk)
theorem told_v {fn : FE} {fx : FZe} {he : Er → Option D} {env : FEn} {x : FRow} {d : D} (h : fn env x = some (d, x)) : fTold fn fx id he env x = some (d, x) := by simp only [fTold, h, id]
theorem told_x {fn : FE} {fx : FZe} {he : Er → Option D} {env : FEn} {x : FRow} {er : Er} {d : D} (h : fn env x = none) (h' : fx env x = some (er, x)) (hd : he er = some d) : fTold fn fx id he env x = some (d, x) := by simp only [fTold, h, h', hd]
theorem call_none {m : List D → Option D} {fa : FA} {env : FEn} {x : FRow} {ds : List D} (h : fa env x = some (ds, x)) (hm : m ds = none) : fCall m fa env x = none := by simp only [fCall, h, hm]
theorem xcall {m : List D → Option Er} {fa : FA} {env : FEn} {x : FRow} {ds : List D} {er : Er} (h : fa env x = some (ds, x)) (hm : m ds = some er) : xCall m fa env x = some (er, x) := by simp only [xCall, h, hm]
theorem heNM : heA LE (Str.ofString "other") NM = some .none := by
  unfold heA Lw.LE NM
  rfl
/-- what the law has drawn -/
structure Dr (ps : List StT) (v : Int) (m : Mk) (t : Int) : Prop where
  p : POk ps
  l : ∀ s ∈ ps, s.2.length ≤ 2
  v : In ps v
  m : evOk m
  t : In ps t
def kn (ps : List StT) (v : Int) (m : Mk) : Bool := ((staAt ps v).2.find? fun p => decide (p.1 = m)).isSome
def lessD (ps : List StT) (v : Int) (m : Mk) : List StT := setS ps v (rests ps v, (staAt ps v).2.filter fun p => !decide (p.1 = m))
def moreD (ps : List StT) (v : Int) (m : Mk) (t : Int) : List StT := setS ps v (rests ps v, srt ((staAt ps v).2 ++ [(m, t)]))
def lE (ps : List StT) (v : Int) (m : Mk) (t : Int) (s2 s3 s4 s5 s6 s7 s8 s9 : FSl) : FEn := [.no, .rw, s2, s3, s4, s5, s6, s7, s8, s9, .va (mD m), .va (ePa ps), .va (.int v), .va (.int t), .no]
theorem exq {f g : FS} {env e1 : FEn} {x x1 : FRow} (h : f env x = some (.nx e1, x1)) (r : ∃ x', g e1 x1 = some (.rt (.bool true), x')) : ∃ x', sSeq f g env x = some (.rt (.bool true), x') := by
  obtain ⟨x', h'⟩ := r
  exact ⟨x', by simp only [sSeq, h, h']⟩
theorem kn_t {ps : List StT} {v : Int} {m : Mk} (h : kn ps v m = true) : m ∈ (staAt ps v).2.map (·.1) := find_some_iff.mp h
theorem kn_f {ps : List StT} {v : Int} {m : Mk} (h : kn ps v m = false) : m ∉ (staAt ps v).2.map (·.1) := fun z => by
  have := find_some_iff.mpr z
  unfold kn at h
  rw [this] at h; cases h
section
variable {v : Int} {m : Mk} {t : Int}
theorem Dr.s (d : Dr ps v m t) : StOk ps.length (staAt ps v) := sta_ok' d.p d.v
theorem Dr.l2 (d : Dr ps v m t) : (staAt ps v).2.length ≤ 2 := d.l _ (staAt_mem d.v.1 d.v.2).2
theorem less_ok (d : Dr ps v m t) : POk (lessD ps v m) := setS_ok d.p ⟨Nat.le_trans (List.length_filter_le _ _) d.s.l, fun p hp => d.s.e p (List.mem_filter.mp hp).1, fun p hp => d.s.t p (List.mem_filter.mp hp).1, d.s.a.sublist List.filter_sublist⟩
theorem more_ok (d : Dr ps v m t) (h : kn ps v m = false) : POk (moreD ps v m t) := setS_ok d.p (ins_ok d.s d.l2 d.m (kn_f h) d.t (rests ps v)).2.2.1
/-- known = event in [step[:3] for step in steps] -/
theorem known_fe (d : Dr ps v m t) {env : FEn} {x : FRow} (h3 : env[3]? = some (.va (.tuple ((staAt ps v).2.map eSt)))) (h10 : env[10]? = some (.va (mD m))) (hl : env.length = 15) :
    fBin gInA (fBor 10) (fOfX (xLc (fSeq (fVar 3)) (gtName 14) tYesF (fSl (fBor 14) oNone (oSome (fC (.int 3)))) [14])) env x = some (.bool (kn ps v m), x) := by
  have w3 : (wipeE env [14])[3]? = some (.va (.tuple ((staAt ps v).2.map eSt))) := by
    simp only [wipeE, List.foldl_cons, List.foldl_nil]
    rw [List.getElem?_set_ne (by omega)]; exact h3
  have wl : (wipeE env [14]).length = 15 := by simp only [wipeE, List.foldl_cons, List.foldl_nil, List.length_set, hl]
  have l1 : fOfX (xLc (fSeq (fVar 3)) (gtName 14) tYesF (fSl (fBor 14) oNone (oSome (fC (.int 3)))) [14]) env x = some (.list ((staAt ps v).2.map fun p => mD p.1), x) := by
    refine lc_eq (ds := (staAt ps v).2.map eSt) (sqT (vV h3)) (compL_map eSt (fun p => mD p.1) _ fun p hp => ⟨(wipeE env [14]).set 14 (.va (eSt p)), ?_, rfl, ?_⟩) (by rw [List.length_map]; exact nob_n (by have := d.s.l; omega))
    · simp only [gtName, wl]
      first | done | rfl
    · exact sl3 (d.s.e p hp) (vB (by rw [List.getElem?_set_self (by omega)]))
  refine fB (vB h10) l1 ?_
  have s1 : shapedD (mD m) = true := (pt_m d.m.mok (by decide)).sh (by omega)
  have s2 : shapedD (.list ((staAt ps v).2.map fun p => mD p.1)) = true := (pt_list (k := 1) (by rw [List.length_map]; have := d.s.l; omega) fun z hz => by
    obtain ⟨p, hp, rfl⟩ := List.mem_map.mp hz
    exact pt_m (d.s.e p hp).mok (by decide)).sh (by omega)
  simp only [gInA, gIn, s1, s2, Bool.and_self, if_true]
  congr 2
  unfold kn
  have e : ∀ l : List (Mk × Int), ((l.map fun p => mD p.1).any fun z => eqD z (mD m)) = (l.find? fun p => decide (p.1 = m)).isSome := fun l => by
    induction l with
    | nil => rfl
    | cons p l ih =>
      rw [List.map_cons, List.any_cons, List.find?_cons, ih, eqD_mk]
      by_cases c : p.1 = m <;> simp [c]
  exact e _
end
end Lp
namespace Lp
open PySem RT Wb6 Lw
variable {ps : List StT} {v : Int} {m : Mk} {t : Int}
/-- part[:state] + (d,) + part[state + 1:] -/
theorem part_repl (d : Dr ps v m t) {env : FEn} {x : FRow} {h : FE} {s : StT} (h11 : env[11]? = some (.va (ePa ps))) (h12 : env[12]? = some (.va (.int v))) (hh : h env x = some (eSta s, x)) :
    fBin gAdd (fBin gAdd (fSl (fBor 11) oNone (oSome (fVar 12))) (fTup (aCons h aNil))) (fSl (fBor 11) (oSome (fBin gAdd (fBor 12) (fC (.int 1)))) oNone) env x = some (ePa (setS ps v s), x) := by
  obtain ⟨ev, hl⟩ := in_nat d.v
  have hn := d.p.n
  have q := repl_fe (k := v.toNat) (xs := ps.map eSta) (f := fBor 11) (g := fVar 12) (g' := fBor 12) (h := h) (d := eSta s) (env := env) (x := x) (vB h11) (by rw [← ev]; exact vV h12) (by rw [← ev]; exact vB h12) hh (by rw [List.length_map]; exact hl) (by rw [List.length_map]; omega)
  rw [q]
  unfold setS ePa
  rw [List.map_set]
theorem lessL_fe (d : Dr ps v m t) {env : FEn} {x : FRow} (h3 : env[3]? = some (.va (.tuple ((staAt ps v).2.map eSt)))) (h10 : env[10]? = some (.va (mD m))) (hl : env.length = 15) :
    fOfX (xLc (fSeq (fVar 3)) (gtName 14) (fTst (fBin gNe (fSl (fBor 14) oNone (oSome (fC (.int 3)))) (fBor 10))) (fVar 14) [14]) env x = some (.list (((staAt ps v).2.filter fun p => !decide (p.1 = m)).map eSt), x) := by
  have so := d.s
  have w : ∀ i, i ≠ 14 → (wipeE env [14])[i]? = env[i]? := fun i hi => by
    simp only [wipeE, List.foldl_cons, List.foldl_nil]
    rw [List.getElem?_set_ne (by omega)]
  have wl : (wipeE env [14]).length = 15 := by simp only [wipeE, List.foldl_cons, List.foldl_nil, List.length_set, hl]
  refine lc_eq (ds := (staAt ps v).2.map eSt) (sqT (vV h3)) (compL_gen eSt (fun p => !decide (p.1 = m)) eSt _ fun p hp => ⟨(wipeE env [14]).set 14 (.va (eSt p)), rfl, tst_b (fB (sl3 (so.e p hp) (vB (by rw [List.getElem?_set_self (by omega)]))) (vB (by rw [List.getElem?_set_ne (by omega), w 10 (by omega)]; exact h10)) (ne_mk (so.e p hp) d.m)), fun _ => vV (by rw [List.getElem?_set_self (by omega)])⟩) ?_
  rw [List.length_map]
  exact nob_n (Nat.le_trans (List.length_filter_le _ _) (by have := so.l; omega))
theorem moreL_fe (d : Dr ps v m t) (hk : kn ps v m = false) {env : FEn} {x : FRow} (h3 : env[3]? = some (.va (.tuple ((staAt ps v).2.map eSt)))) (h10 : env[10]? = some (.va (mD m))) (h13 : env[13]? = some (.va (.int t))) :
    fCall gSortV (aCons (fBin gAdd (fBor 3) (fTup (aCons (fBin gAdd (fBor 10) (fTup (aCons (fVar 13) aNil))) aNil))) aNil) env x = some (.list ((srt ((staAt ps v).2 ++ [(m, t)])).map eSt), x) := by
  have so := d.s
  obtain ⟨e1, e2, e3, e4⟩ := ins_ok so d.l2 d.m (kn_f hk) d.t (rests ps v)
  have a1 : gAdd (.tuple ((staAt ps v).2.map eSt)) (.tuple [eSt (m, t)]) = some (.tuple (((staAt ps v).2 ++ [(m, t)]).map eSt)) := by
    rw [cat_TT (by rw [List.length_map, List.length_singleton]; exact ml _ (by have := so.l; omega)), List.map_append]; rfl
  exact fK (aC1 (fB (vB h3) (fTup_ok (aC1 (fB (vB h10) (fTup_ok (aC1 (vV h13)) one_ml) (eSt_cat (p := (m, t)) d.m))) one_ml) a1)) (sortV_st e1 e2 (by rw [List.length_append, List.length_singleton]; have := d.l2; omega))
/-- the steps as the law sorts them when the event is there: some list -/
theorem sortV_any {l : List (Mk × Int)} (he : ∀ p ∈ l, evOk p.1) (hl : l.length ≤ 100) : ∃ ds : List D, gSortV [.tuple (l.map eSt)] = some (.list ds) ∧ ds.length = l.length ∧ ∀ z ∈ ds, z ∈ l.map eSt := by
  have h1 : shapedD (.list (l.map eSt)) = true := (pt_list (k := 1) (by rw [List.length_map]; omega) fun d hd => by
    obtain ⟨p, hp, rfl⟩ := List.mem_map.mp hd
    exact pt_eSt (he p hp)).sh (by omega)
  have h2 : sortableB (l.map eSt) = true := by
    unfold sortableB
    rw [List.all_eq_true]
    intro d hd
    obtain ⟨p, hp, rfl⟩ := List.mem_map.mp hd
    obtain ⟨k, o, w, e, _⟩ := he p hp
    simp [eSt, e]
  have h3 : alikeB (l.map eSt) = true := alikeB_of fun p hp q hq => eSt_alike ((he p hp).mok.1.trans (he q hq).mok.1.symm)
  have h4 : (l.map eSt).length ≤ maxLen := ml _ (by rw [List.length_map]; omega)
  have hx : gSortX [.tuple (l.map eSt)] = none := rfl
  refine ⟨(l.map eSt).mergeSort leD, ?_, by rw [List.length_mergeSort, List.length_map], fun z hz => (List.mergeSort_perm _ _).mem_iff.mp hz⟩
  simp only [gSortV, cOr, hx, gSortU, gSortD, h1, h2, h3, Bool.and_self, Bool.true_and, decide_eq_true_eq, if_pos h4]
theorem moreA_fe (d : Dr ps v m t) {env : FEn} {x : FRow} (h3 : env[3]? = some (.va (.tuple ((staAt ps v).2.map eSt)))) (h10 : env[10]? = some (.va (mD m))) (h13 : env[13]? = some (.va (.int t))) :
    ∃ ds : List D, fCall gSortV (aCons (fBin gAdd (fBor 3) (fTup (aCons (fBin gAdd (fBor 10) (fTup (aCons (fVar 13) aNil))) aNil))) aNil) env x = some (.list ds, x) := by
  have so := d.s
  have he : ∀ p ∈ (staAt ps v).2 ++ [(m, t)], evOk p.1 := fun p hp => by
    rcases List.mem_append.mp hp with hp | hp
    · exact so.e p hp
    · rw [List.mem_singleton] at hp; subst hp; exact d.m
  obtain ⟨ds, e, _⟩ := sortV_any he (by rw [List.length_append, List.length_singleton]; have := d.l2; omega)
  have a1 : gAdd (.tuple ((staAt ps v).2.map eSt)) (.tuple [eSt (m, t)]) = some (.tuple (((staAt ps v).2 ++ [(m, t)]).map eSt)) := by
    rw [cat_TT (by rw [List.length_map, List.length_singleton]; exact ml _ (by have := so.l; omega)), List.map_append]; rfl
  exact ⟨ds, fK (aC1 (fB (vB h3) (fTup_ok (aC1 (fB (vB h10) (fTup_ok (aC1 (vV h13)) one_ml) (eSt_cat (p := (m, t)) d.m))) one_ml) a1)) e⟩
/-- part[:state] + (d,) + part[state + 1:], whatever d -/
theorem part_replD (d : Dr ps v m t) {env : FEn} {x : FRow} {h : FE} {z : D} (h11 : env[11]? = some (.va (ePa ps))) (h12 : env[12]? = some (.va (.int v))) (hh : h env x = some (z, x)) :
    fBin gAdd (fBin gAdd (fSl (fBor 11) oNone (oSome (fVar 12))) (fTup (aCons h aNil))) (fSl (fBor 11) (oSome (fBin gAdd (fBor 12) (fC (.int 1)))) oNone) env x = some (.tuple ((ps.map eSta).set v.toNat z), x) := by
  obtain ⟨ev, hl⟩ := in_nat d.v
  have hn := d.p.n
  exact repl_fe (k := v.toNat) (xs := ps.map eSta) (f := fBor 11) (g := fVar 12) (g' := fBor 12) (h := h) (d := z) (env := env) (x := x) (vB h11) (by rw [← ev]; exact vV h12) (by rw [← ev]; exact vB h12) hh (by rw [List.length_map]; exact hl) (by rw [List.length_map]; omega)
/-! the law, from the drawn part on -/
/-- not alike: never -/
theorem alike_no {fa fb : FE} {env : FEn} {x : FRow} {z : D} {k : Nat} {r : FS} (ha : fa env x = some (z, x)) (hb : fb env x = some (z, x)) (hp : Lw.Pt k z) (hk : k ≤ 8) :
    sIf (tNotF (fTru (fCall (m_law_alike 9) (aCons fa (aCons fb aNil))))) r sNil env x = some (.nx env, x) := by
  refine if_no ?_
  have := fK (m := m_law_alike 9) (aC2 ha hb) (alike_ok' hp hk)
  simp only [tNotF, fTru, this, truD, Bool.not_true]
theorem fIf_t {t : FT} {a b : FE} {env : FEn} {x : FRow} (h : t env x = some (true, x)) : fIf t a b env x = a env x := by simp only [fIf, h]
theorem fIf_f {t : FT} {a b : FE} {env : FEn} {x : FRow} (h : t env x = some (false, x)) : fIf t a b env x = b env x := by simp only [fIf, h]
theorem truV {i : Nat} {b : Bool} {env : FEn} {x : FRow} (h : env[i]? = some (.va (.bool b))) : fTru (fBor i) env x = some (b, x) := by simp only [fTru, vB h, truD]
section
variable (d : Dr ps v m t) {env : FEn} {x : FRow} (h10 : env[10]? = some (.va (mD m))) (h11 : env[11]? = some (.va (ePa ps))) (h12 : env[12]? = some (.va (.int v))) (h13 : env[13]? = some (.va (.int t)))
include d h10 h11 h12
theorem told_without : fTold (fCall m_without_event (aCons (fVar 11) (aCons (fVar 12) (aCons (fVar 10) aNil)))) (xCall mx_without_event (aCons (fVar 11) (aCons (fVar 12) (aCons (fVar 10) aNil)))) id (heA LE (Str.ofString "other")) env x = some (if kn ps v m = true then ePa (lessD ps v m) else .none, x) := by
  have a := aC3 (x := x) (vV h11) (vV h12) (vV h10)
  cases c : kn ps v m with
  | true => rw [if_pos rfl]; exact told_v (fK a (without_eq d.p d.v d.m (kn_t c)))
  | false =>
    have q := without_x d.p d.v d.m (kn_f c)
    rw [if_neg (by decide)]
    exact told_x (call_none a q.1) (xcall a q.2) heNM
include h13
theorem told_plus : fTold (fCall m_plus_event (aCons (fVar 11) (aCons (fVar 12) (aCons (fVar 10) (aCons (fVar 13) aNil))))) (xCall mx_plus_event (aCons (fVar 11) (aCons (fVar 12) (aCons (fVar 10) (aCons (fVar 13) aNil))))) id (heA LE (Str.ofString "other")) env x = some (if kn ps v m = true then .none else ePa (moreD ps v m t), x) := by
  have a : aCons (fVar 11) (aCons (fVar 12) (aCons (fVar 10) (aCons (fVar 13) aNil))) env x = some ([ePa ps, .int v, mD m, .int t], x) := by
    simp only [aCons, vV h11, vV h12, vV h10, vV h13, aNil]
  cases c : kn ps v m with
  | true =>
    have q := plus_x d.p d.v d.m d.t (kn_t c)
    rw [if_pos rfl]
    exact told_x (call_none a q.1) (xcall a q.2) heNM
  | false => rw [if_neg (by decide)]; exact told_v (fK a (plus_eq d.p d.v d.m d.t d.l2 (kn_f c)))
theorem plus_back (c : kn ps v m = false) : fCall m_without_event (aCons (fCall m_plus_event (aCons (fVar 11) (aCons (fVar 12) (aCons (fVar 10) (aCons (fVar 13) aNil))))) (aCons (fVar 12) (aCons (fVar 10) aNil))) env x = some (ePa ps, x) := by
  have a : aCons (fVar 11) (aCons (fVar 12) (aCons (fVar 10) (aCons (fVar 13) aNil))) env x = some ([ePa ps, .int v, mD m, .int t], x) := by
    simp only [aCons, vV h11, vV h12, vV h10, vV h13, aNil]
  have p := fK a (plus_eq d.p d.v d.m d.t d.l2 (kn_f c))
  obtain ⟨e1, e2, e3, e4⟩ := ins_ok d.s d.l2 d.m (kn_f c) d.t (rests ps v)
  have mo := more_ok d c
  have hv : In (moreD ps v m t) v := setS_in.mpr d.v
  have st : staAt (moreD ps v m t) v = (rests ps v, srt ((staAt ps v).2 ++ [(m, t)])) := setS_self d.v
  have w := without_eq mo hv d.m (m := m) (by
    rw [st]
    exact List.mem_map.mpr ⟨(m, t), (srt_perm _).mem_iff.mpr (by simp), rfl⟩)
  have r : rests (moreD ps v m t) v = rests ps v := by unfold rests; rw [st]; rfl
  rw [st, r] at w
  simp only [e4] at w
  have bk : setS (moreD ps v m t) v (rests ps v, (staAt ps v).2) = ps := by
    unfold moreD
    rw [setS_twice]
    exact setS_id d.v
  rw [bk] at w
  exact fK (aC3 p (vV h12) (vV h10)) w
end
end Lp
namespace Lp
open PySem RT Wb6 Lw
variable {ps : List StT} {v : Int} {m : Mk} {t : Int}
theorem law_cast_E {n : Int} {ss : List Sc} (k : Ok n ss) (h6 : ss.length ≤ 6) {N : Nat} (hN : n = (N : Int)) : m_law_cast [eX n ss] = some (eCa (castP N ss)) := by
  have hn2 := k.n2
  refine mkF_rt (x := row0) rfl ?_
  show b_law_cast [.va (eX n ss), .no] row0 = _
  rw [← castD_P]
  refine sR (tupOf_ok (lc_eq (rg_actors k hN rfl) (compL_map D.int (cutD ss) (actorsL N) fun a ha => ⟨_, rfl, rfl, ?_⟩) (nob_n (by unfold actorsL; rw [List.length_map, List.length_map, List.length_range]; omega))))
  have e := law_cut_eq k h6 (th_grn (a := a) k h6).1
  rw [show D.tuple ((TH ss a).map (rowL ss a (TH ss a))) = cutD ss a from rfl] at e
  exact fB (fb := fC (.int 1)) (fK (aC2 (vV rfl) (vV rfl)) e) rfl (by simp only [gAt, atI_z1])
theorem with_part_ok {c : List Prt} (hc : CaOk c) (h : POk ps) {a : Nat} (ha : a < c.length) : m_with_part [eCa c, .int (a : Int), ePa ps] = some (.tuple ((c.map ePr).set a (ePa ps))) := by
  have hn := hc.n
  refine mkF_rt (x := row0) rfl ?_
  show b_with_part [.va (eCa c), .va (.int (a : Int)), .va (ePa ps)] row0 = _
  have c1 : sDrop (fCall m_check_cast (aCons (fVar 0) aNil)) [.va (eCa c), .va (.int (a : Int)), .va (ePa ps)] row0 = some (.nx [.va (eCa c), .va (.int (a : Int)), .va (ePa ps)], row0) := by
    have := fK (x := row0) (env := [.va (eCa c), .va (.int (a : Int)), .va (ePa ps)]) (aC1 (vV (i := 0) rfl)) (check_cast_E hc)
    simp only [sDrop, this]
  have c2 : sDrop (fCall m_check_actor (aCons (fVar 1) (aCons (fCall gLen (aCons (fBor 0) aNil)) aNil))) [.va (eCa c), .va (.int (a : Int)), .va (ePa ps)] row0 = some (.nx [.va (eCa c), .va (.int (a : Int)), .va (ePa ps)], row0) := by
    have := fK (x := row0) (env := [.va (eCa c), .va (.int (a : Int)), .va (ePa ps)]) (aC2 (vV (i := 1) rfl) (fK (m := gLen) (aC1 (vB (i := 0) rfl)) (r := .int (c.length : Int)) (by simp [gLen, eCa]))) (check_actor_ok (a := a) (n := c.length) ⟨by omega, by omega⟩)
    simp only [sDrop, this]
  have c3 : sDrop (fCall m_check_part (aCons (fVar 2) aNil)) [.va (eCa c), .va (.int (a : Int)), .va (ePa ps)] row0 = some (.nx [.va (eCa c), .va (.int (a : Int)), .va (ePa ps)], row0) := by
    have := fK (x := row0) (env := [.va (eCa c), .va (.int (a : Int)), .va (ePa ps)]) (aC1 (vV (i := 2) rfl)) (check_part_ok h)
    simp only [sDrop, this]
  unfold b_with_part
  rw [sSeq_nx c1, sSeq_nx c2, sSeq_nx c3]
  exact sR (fK (aC3 (vV rfl) (vV rfl) (vV rfl)) (replaced_D (by rw [List.length_map]; exact ha) (by rw [List.length_map]; omega)))
end Lp
namespace Lp
open PySem RT Wb6 Lw
variable {ps : List StT} {v : Int} {m : Mk} {t : Int}
theorem pt_opt {b : Bool} (h : b = true → POk ps) : Lw.Pt 4 (if b = true then ePa ps else .none) := by
  cases b with
  | true => rw [if_pos rfl]; exact pt_pa (h rfl)
  | false => rw [if_neg (by decide)]; exact Or.inl (Or.inl rfl)
theorem pt_opt' {b : Bool} (h : b = false → POk ps) : Lw.Pt 4 (if b = true then .none else ePa ps) := by
  cases b with
  | true => rw [if_pos rfl]; exact Or.inl (Or.inl rfl)
  | false => rw [if_neg (by decide)]; exact pt_pa (h rfl)
/-- from the drawn part on, up to the cast -/
theorem law_tail (d : Dr ps v m t) {x : FRow} (hx : 0 ≤ x.a) (f : FS) (hf : f = sSeq (sSet 8 (xVal (fCall m_law_cast (aCons (fCallR 1 m_law_script (aCons (fBin gAdd (fC (.int 2)) (fCallR 1 m_law_taken (aCons (fC (.int 3)) aNil))) (aCons (fC (.int 3)) (aCons (fC (.bool true)) aNil)))) aNil))))
    (sSeq (sSet 9 (xVal (fCallR 1 m_law_taken (aCons (fCall gLen (aCons (fBor 8) aNil)) aNil))))
    (sRet (fCall (m_law_alike 9) (aCons (fCall m_with_part (aCons (fVar 8) (aCons (fVar 9) (aCons (fVar 11) aNil)))) (aCons (fBin gAdd (fBin gAdd (fSl (fBor 8) oNone (oSome (fVar 9))) (fTup (aCons (fVar 11) aNil))) (fSl (fBor 8) (oSome (fBin gAdd (fBor 9) (fC (.int 1)))) oNone)) aNil))))))
    (s2 s3 s4 s5 s6 s7 : FSl) : ∃ x', f (lE ps v m t s2 s3 s4 s5 s6 s7 .no .no) x = some (.rt (.bool true), x') := by
  subst hf
  obtain ⟨r, x1, e1, hr, hx1⟩ := takE (env := lE ps v m t s2 s3 s4 s5 s6 s7 .no .no) (i := 1) rfl hx (f := fC (.int 3)) (many := 3) rfl (by omega) (by omega)
  obtain ⟨N, hN⟩ : ∃ N : Nat, 2 + r = (N : Int) := ⟨(2 + r).toNat, by omega⟩
  have q1 : fBin gAdd (fC (.int 2)) (fCallR 1 m_law_taken (aCons (fC (.int 3)) aNil)) (lE ps v m t s2 s3 s4 s5 s6 s7 .no .no) x = some (.int (N : Int), x1) := by
    rw [← hN]
    exact fBin_eq (fa := fC (.int 2)) rfl e1 rfl
  obtain ⟨ss, x2, e2, hx2, k, _, hl⟩ := script_ok (n := (N : Int)) (lp := true) (most := 3) (by omega) (by omega) hx1
  have q2 : fCallR 1 m_law_script (aCons (fBin gAdd (fC (.int 2)) (fCallR 1 m_law_taken (aCons (fC (.int 3)) aNil))) (aCons (fC (.int 3)) (aCons (fC (.bool true)) aNil))) (lE ps v m t s2 s3 s4 s5 s6 s7 .no .no) x = some (eX N ss, x2) := by
    refine fCallR_eq rfl ?_ e2
    simp only [aCons, q1, fC, aNil]
  have k6 : ss.length ≤ 6 := by omega
  have q3 := sSet_va (i := 8) (fCall_eq (aCons1 q2) (law_cast_E k k6 rfl))
  refine exq q3 ?_
  have ca := ca_cut k k6 (N := N) rfl
  have cl : (castP N ss).length = N := castP_len N
  obtain ⟨a, x3, e3, ha, hx3⟩ := takE (env := (lE ps v m t s2 s3 s4 s5 s6 s7 .no .no).set 8 (.va (eCa (castP N ss)))) (i := 1) rfl hx2 (f := fCall gLen (aCons (fBor 8) aNil)) (many := (N : Int)) (fK (aC1 (vB (i := 8) rfl)) (by simp [gLen, eCa, cl])) (by omega) (by omega)
  obtain ⟨an, rfl⟩ : ∃ an : Nat, a = (an : Int) := ⟨a.toNat, by omega⟩
  refine exq (sSet_va (i := 9) e3) ?_
  have hac : an < (castP N ss).length := by rw [cl]; omega
  refine ⟨x3, ?_⟩
  have w1 : fCall m_with_part (aCons (fVar 8) (aCons (fVar 9) (aCons (fVar 11) aNil))) (((lE ps v m t s2 s3 s4 s5 s6 s7 .no .no).set 8 (.va (eCa (castP N ss)))).set 9 (.va (.int (an : Int)))) x3 = some (.tuple (((castP N ss).map ePr).set an (ePa ps)), x3) :=
    fK (aC3 (vV rfl) (vV rfl) (vV rfl)) (with_part_ok ca d.p hac)
  have w2 : fBin gAdd (fBin gAdd (fSl (fBor 8) oNone (oSome (fVar 9))) (fTup (aCons (fVar 11) aNil))) (fSl (fBor 8) (oSome (fBin gAdd (fBor 9) (fC (.int 1)))) oNone) (((lE ps v m t s2 s3 s4 s5 s6 s7 .no .no).set 8 (.va (eCa (castP N ss)))).set 9 (.va (.int (an : Int)))) x3 = some (.tuple (((castP N ss).map ePr).set an (ePa ps)), x3) :=
    repl_fe (k := an) (xs := (castP N ss).map ePr) (vB rfl) (vV rfl) (vB rfl) (vV rfl) (by rw [List.length_map]; exact hac) (by rw [List.length_map, cl]; omega)
  refine sR (fK (aC2 w1 w2) (alike_ok' (k := 5) (Or.inr ⟨_, Or.inl rfl, by rw [List.length_set, List.length_map, cl]; omega, fun z hz => ?_⟩) (by omega)))
  rcases List.mem_or_eq_of_mem_set hz with hz | rfl
  · obtain ⟨p, hp, rfl⟩ := List.mem_map.mp hz
    have po := ca.p p hp
    refine Or.inr ⟨_, Or.inl rfl, by rw [List.length_map]; have := po.n; omega, fun z hz => ?_⟩
    obtain ⟨s, hs, rfl⟩ := List.mem_map.mp hz
    refine Or.inr ⟨_, Or.inl rfl, by simp, fun z hz => ?_⟩
    simp only [List.mem_cons, List.not_mem_nil, or_false] at hz
    rcases hz with rfl | rfl
    · exact Or.inl (Or.inr (Or.inr (Or.inr ⟨_, rfl⟩)))
    · refine Or.inr ⟨_, Or.inl rfl, by rw [List.length_map]; have := (po.s s hs).l; omega, fun z hz => ?_⟩
      obtain ⟨q, hq, rfl⟩ := List.mem_map.mp hz
      refine Or.inr ⟨_, Or.inl rfl, by simp, fun z hz => ?_⟩
      simp only [List.mem_cons, List.not_mem_nil, or_false] at hz
      rcases hz with rfl | rfl | rfl | rfl
      · exact Or.inr (Or.inr (Or.inl ⟨_, rfl, kS_ok _⟩))
      · exact P0i _
      · exact P0i _
      · exact P0i _
  · exact pt_pa d.p
end Lp
namespace Lp
open PySem RT Wb6 Lw
variable {ps : List StT} {v : Int} {m : Mk} {t : Int}
theorem rests_eta (ps : List StT) (v : Int) (l : List (Mk × Int)) : eSta (rests ps v, l) = .tuple [.bool (rests ps v), .tuple (l.map eSt)] := rfl
theorem lrow {ps : List StT} {x : FRow} (h : POk ps) {env : FEn} (h11 : env[11]? = some (.va (ePa ps))) : fCall gLen (aCons (fBor 11) aNil) env x = some (.int (ps.length : Nat), x) := fK (aC1 (vB h11)) (len_pa ps)
theorem law_run {x0 : FRow} (h0 : 0 ≤ x0.a) : ∃ x', b_law (.no :: .rw :: List.replicate 13 .no) x0 = some (.rt (.bool true), x') := by
  obtain ⟨ps, x1, e1, hx1, hp, hl, hd⟩ := part_ok (most := 5) (by omega) (pl := false) h0
  have hn := hp.n
  unfold b_law
  refine exq (sSet_va (i := 11) (fCallR_eq (env := .no :: .rw :: List.replicate 13 .no) rfl (aCons2 rfl rfl) e1)) ?_
  have e11 : ∃ E1 : FEn, E1 = (FSl.no :: .rw :: List.replicate 13 .no).set 11 (.va (ePa ps)) := ⟨_, rfl⟩
  obtain ⟨E1, hE1⟩ := e11
  rw [← hE1]
  have g1 : E1[1]? = some .rw := by rw [hE1]; rfl
  have g11 : E1[11]? = some (.va (ePa ps)) := by rw [hE1]; rfl
  obtain ⟨v, x2, e2, hv, hx2⟩ := takE (env := E1) (i := 1) g1 hx1 (lrow hp g11) (by omega) (by omega)
  obtain ⟨t, x3, e3, ht, hx3⟩ := takE (env := E1) (i := 1) g1 hx2 (lrow hp g11) (by omega) (by omega)
  have c2 : sPars [12, 13] (xsCons (xVal (fCallR 1 m_law_taken (aCons (fCall gLen (aCons (fBor 11) aNil)) aNil))) (xsCons (xVal (fCallR 1 m_law_taken (aCons (fCall gLen (aCons (fBor 11) aNil)) aNil))) xsNil)) E1 x1 = some (.nx [.no, .rw, .no, .no, .no, .no, .no, .no, .no, .no, .no, .va (ePa ps), .va (.int v), .va (.int t), .no], x3) := by
    have q : xsCons (xVal (fCallR 1 m_law_taken (aCons (fCall gLen (aCons (fBor 11) aNil)) aNil))) (xsCons (xVal (fCallR 1 m_law_taken (aCons (fCall gLen (aCons (fBor 11) aNil)) aNil))) xsNil) E1 x1 = some ([.va (.int v), .va (.int t)], x3) := by
      simp only [xsCons, xVal, e2, e3, xsNil]
    simp only [sPars, q, List.length_cons, List.length_nil, if_true]
    rw [hE1]; rfl
  refine exq c2 ?_
  -- the event
  obtain ⟨z, x4, hz, ez, hx4⟩ := pick_ok (l := [.str hearS, .str sayS]) (by simp) (by simp) hx3
  have e4 := fCallR_eq (i := 1) (m := m_law_pick) (fa := aCons (fLst (aCons (fC (.str (Str.ofString "hear"))) (aCons (fC (.str (Str.ofString "say"))) aNil))) aNil) (env := [.no, .rw, .no, .no, .no, .no, .no, .no, .no, .no, .no, .va (ePa ps), .va (.int v), .va (.int t), .no]) rfl (aCons1 (fLst_ok (aC2 (fa := fC (.str hearS)) (fb := fC (.str sayS)) rfl rfl) two_ml)) ez
  obtain ⟨k, hk, rfl⟩ : ∃ k, (k = hearS ∨ k = sayS) ∧ z = .str k := by
    simp only [List.mem_cons, List.not_mem_nil, or_false] at hz
    rcases hz with rfl | rfl
    · exact ⟨_, .inl rfl, rfl⟩
    · exact ⟨_, .inr rfl, rfl⟩
  obtain ⟨o, x5, e5, ho, hx5⟩ := takE (env := [.no, .rw, .no, .no, .no, .no, .no, .no, .no, .no, .no, .va (ePa ps), .va (.int v), .va (.int t), .no]) (i := 1) rfl hx4 (f := fC (.int 2)) (many := 2) rfl (by omega) (by omega)
  obtain ⟨w, x6, e6, hw, hx6⟩ := takE (env := [.no, .rw, .no, .no, .no, .no, .no, .no, .no, .no, .no, .va (ePa ps), .va (.int v), .va (.int t), .no]) (i := 1) rfl hx5 (f := fC (.int 2)) (many := 2) rfl (by omega) (by omega)
  have e5' : fBin gAdd (fC (.int 1)) (fCallR 1 m_law_taken (aCons (fC (.int 2)) aNil)) [.no, .rw, .no, .no, .no, .no, .no, .no, .no, .no, .no, .va (ePa ps), .va (.int v), .va (.int t), .no] x4 = some (.int (1 + o), x5) := fBin_eq (fa := fC (.int 1)) rfl e5 rfl
  obtain ⟨m, hm⟩ : ∃ m : Mk, m = [.inr k, .inl (1 + o), .inl w] := ⟨_, rfl⟩
  have mo : evOk m := ⟨k, 1 + o, w, hm, hk, by omega, by omega⟩
  have c3 : fTup (aCons (fCallR 1 m_law_pick (aCons (fLst (aCons (fC (.str (Str.ofString "hear"))) (aCons (fC (.str (Str.ofString "say"))) aNil))) aNil)) (aCons (fBin gAdd (fC (.int 1)) (fCallR 1 m_law_taken (aCons (fC (.int 2)) aNil))) (aCons (fCallR 1 m_law_taken (aCons (fC (.int 2)) aNil)) aNil))) [.no, .rw, .no, .no, .no, .no, .no, .no, .no, .no, .no, .va (ePa ps), .va (.int v), .va (.int t), .no] x3 = some (mD m, x6) := by
    have q : aCons (fCallR 1 m_law_pick (aCons (fLst (aCons (fC (.str (Str.ofString "hear"))) (aCons (fC (.str (Str.ofString "say"))) aNil))) aNil)) (aCons (fBin gAdd (fC (.int 1)) (fCallR 1 m_law_taken (aCons (fC (.int 2)) aNil))) (aCons (fCallR 1 m_law_taken (aCons (fC (.int 2)) aNil)) aNil)) [.no, .rw, .no, .no, .no, .no, .no, .no, .no, .no, .no, .va (ePa ps), .va (.int v), .va (.int t), .no] x3 = some ([.str k, .int (1 + o), .int w], x6) := by
      rw [aCons, e4]
      simp only [aCons, e5', e6, aNil]
    rw [fTup_ok q (Nat.le_of_lt (nob_n (by simp))), hm]; rfl
  refine exq (sSet_va (i := 10) c3) ?_
  have d : Dr ps v m t := ⟨hp, fun s hs => (hd s hs).2, hv, mo, ht⟩
  show ∃ x', sSeq _ _ (lE ps v m t .no .no .no .no .no .no .no .no) x6 = _
  have c4 : sUnp (fBin gAt (fBor 11) (fBor 12)) (gtTup 2 (gtCons (gtName 2) (gtCons (gtName 3) gtNil))) (lE ps v m t .no .no .no .no .no .no .no .no) x6 = some (.nx (lE ps v m t (.va (.bool (rests ps v))) (.va (.tuple ((staAt ps v).2.map eSt))) .no .no .no .no .no .no), x6) := by
    simp only [sUnp, sta_at (x := x6) hp hv (vB (i := 11) (env := lE ps v m t .no .no .no .no .no .no .no .no) rfl) (vB (i := 12) rfl)]
    rfl
  refine exq c4 ?_
  refine exq (e1 := lE ps v m t (.va (.bool (rests ps v))) (.va (.tuple ((staAt ps v).2.map eSt))) (.va (.bool (kn ps v m))) .no .no .no .no .no) (sSet_va (i := 4) (known_fe d rfl rfl rfl)) ?_
  -- less
  refine exq (e1 := lE ps v m t (.va (.bool (rests ps v))) (.va (.tuple ((staAt ps v).2.map eSt))) (.va (.bool (kn ps v m))) (.va (ePa (lessD ps v m))) .no .no .no .no) (sSet_va (i := 5) (part_repl d (s := (rests ps v, (staAt ps v).2.filter fun p => !decide (p.1 = m))) rfl rfl (by
    rw [rests_eta]
    exact fTup_ok (aC2 (vV rfl) (tupOf_ok (lessL_fe d rfl rfl rfl))) two_ml))) ?_
  refine exq (alike_no (k := 4) (told_without d rfl rfl rfl) (by
    cases c : kn ps v m with
    | true => rw [fIf_t (truV (b := true) (by rw [← c]; rfl)), if_pos rfl]; exact vV rfl
    | false => rw [fIf_f (truV (b := false) (by rw [← c]; rfl)), if_neg (by decide)]; rfl) (pt_opt fun _ => less_ok d) (by omega)) ?_
  -- more
  obtain ⟨M, hM⟩ : ∃ M : D, fBin gAdd (fBin gAdd (fSl (fBor 11) oNone (oSome (fVar 12))) (fTup (aCons (fTup (aCons (fVar 2) (aCons (fCall gTupOf (aCons (fCall gSortV (aCons (fBin gAdd (fBor 3) (fTup (aCons (fBin gAdd (fBor 10) (fTup (aCons (fVar 13) aNil))) aNil))) aNil)) aNil)) aNil))) aNil))) (fSl (fBor 11) (oSome (fBin gAdd (fBor 12) (fC (.int 1)))) oNone) (lE ps v m t (.va (.bool (rests ps v))) (.va (.tuple ((staAt ps v).2.map eSt))) (.va (.bool (kn ps v m))) (.va (ePa (lessD ps v m))) .no .no .no .no) x6 = some (M, x6) ∧ (kn ps v m = false → M = ePa (moreD ps v m t)) := by
    cases c : kn ps v m with
    | true =>
      obtain ⟨ds, hds⟩ := moreA_fe d (env := lE ps v m t (.va (.bool (rests ps v))) (.va (.tuple ((staAt ps v).2.map eSt))) (.va (.bool true)) (.va (ePa (lessD ps v m))) .no .no .no .no) (x := x6) rfl rfl rfl
      exact ⟨_, part_replD d rfl rfl (fTup_ok (aC2 (vV rfl) (tupOf_ok hds)) two_ml), fun z => nomatch z⟩
    | false =>
      exact ⟨_, part_repl d (s := (rests ps v, srt ((staAt ps v).2 ++ [(m, t)]))) rfl rfl (by
        rw [rests_eta]
        exact fTup_ok (aC2 (vV rfl) (tupOf_ok (moreL_fe d c rfl rfl rfl))) two_ml), fun _ => rfl⟩
  refine exq (e1 := lE ps v m t (.va (.bool (rests ps v))) (.va (.tuple ((staAt ps v).2.map eSt))) (.va (.bool (kn ps v m))) (.va (ePa (lessD ps v m))) (.va M) .no .no .no) (sSet_va (i := 6) hM.1) ?_
  refine exq (alike_no (k := 4) (told_plus d rfl rfl rfl rfl) (by
    cases c : kn ps v m with
    | true => rw [fIf_t (truV (b := true) (by rw [← c]; rfl)), if_pos rfl]; rfl
    | false => rw [fIf_f (truV (b := false) (by rw [← c]; rfl)), if_neg (by decide), ← hM.2 c]; exact vV rfl) (pt_opt' fun c => more_ok d c) (by omega)) ?_
  -- rest
  have hrest : ∀ (s7 : FSl) (b : Bool) (x : FRow), (sIf (tNotF (fTru (fCall (m_law_alike 9) (aCons (fCall m_resting (aCons (fVar 11) (aCons (fVar 12) (aCons (fVar 7) aNil)))) (aCons (fBin gAdd (fBin gAdd (fSl (fBor 11) oNone (oSome (fVar 12))) (fTup (aCons (fTup (aCons (fVar 7) (aCons (fVar 3) aNil))) aNil))) (fSl (fBor 11) (oSome (fBin gAdd (fBor 12) (fC (.int 1)))) oNone)) aNil))))) (sRet (fC (.bool false))) sNil) (lE ps v m t (.va (.bool (rests ps v))) (.va (.tuple ((staAt ps v).2.map eSt))) (.va (.bool (kn ps v m))) (.va (ePa (lessD ps v m))) (.va M) (.va (.bool b)) .no .no) x = some (.nx (lE ps v m t (.va (.bool (rests ps v))) (.va (.tuple ((staAt ps v).2.map eSt))) (.va (.bool (kn ps v m))) (.va (ePa (lessD ps v m))) (.va M) (.va (.bool b)) .no .no), x) := fun s7 b x =>
    alike_no (k := 4) (fK (aC3 (vV rfl) (vV rfl) (vV rfl)) (restS_eq hp hv b)) (part_repl d (s := (b, (staAt ps v).2)) rfl rfl (fTup_ok (aC2 (vV rfl) (vV rfl)) two_ml)) (pt_pa (setS_ok hp ⟨d.s.l, d.s.e, d.s.t, d.s.a⟩)) (by omega)
  have c9 : sFor (fSeq (fLst (aCons (fC (.bool true)) (aCons (fC (.bool false)) aNil)))) (gtName 7) (sIf (tNotF (fTru (fCall (m_law_alike 9) (aCons (fCall m_resting (aCons (fVar 11) (aCons (fVar 12) (aCons (fVar 7) aNil)))) (aCons (fBin gAdd (fBin gAdd (fSl (fBor 11) oNone (oSome (fVar 12))) (fTup (aCons (fTup (aCons (fVar 7) (aCons (fVar 3) aNil))) aNil))) (fSl (fBor 11) (oSome (fBin gAdd (fBor 12) (fC (.int 1)))) oNone)) aNil))))) (sRet (fC (.bool false))) sNil) (lE ps v m t (.va (.bool (rests ps v))) (.va (.tuple ((staAt ps v).2.map eSt))) (.va (.bool (kn ps v m))) (.va (ePa (lessD ps v m))) (.va M) .no .no .no) x6 = some (.nx (lE ps v m t (.va (.bool (rests ps v))) (.va (.tuple ((staAt ps v).2.map eSt))) (.va (.bool (kn ps v m))) (.va (ePa (lessD ps v m))) (.va M) (.va (.bool false)) .no .no), x6) := by
    have q : fSeq (fLst (aCons (fC (.bool true)) (aCons (fC (.bool false)) aNil))) (lE ps v m t (.va (.bool (rests ps v))) (.va (.tuple ((staAt ps v).2.map eSt))) (.va (.bool (kn ps v m))) (.va (ePa (lessD ps v m))) (.va M) .no .no .no) x6 = some ([.bool true, .bool false], x6) := by
      have := fLst_ok (aC2 (fa := fC (.bool true)) (fb := fC (.bool false)) (env := lE ps v m t (.va (.bool (rests ps v))) (.va (.tuple ((staAt ps v).2.map eSt))) (.va (.bool (kn ps v m))) (.va (ePa (lessD ps v m))) (.va M) .no .no .no) (x := x6) rfl rfl) two_ml
      simp only [fSeq, this]
    have h1 := hrest .no true x6
    have h2 := hrest .no false x6
    simp only [sFor, q, forL, gtName]
    rw [show (lE ps v m t (.va (.bool (rests ps v))) (.va (.tuple ((staAt ps v).2.map eSt))) (.va (.bool (kn ps v m))) (.va (ePa (lessD ps v m))) (.va M) .no .no .no).set 7 (.va (.bool true)) = lE ps v m t (.va (.bool (rests ps v))) (.va (.tuple ((staAt ps v).2.map eSt))) (.va (.bool (kn ps v m))) (.va (ePa (lessD ps v m))) (.va M) (.va (.bool true)) .no .no from rfl]
    rw [h1]
    simp only []
    rw [show (lE ps v m t (.va (.bool (rests ps v))) (.va (.tuple ((staAt ps v).2.map eSt))) (.va (.bool (kn ps v m))) (.va (ePa (lessD ps v m))) (.va M) (.va (.bool true)) .no .no).set 7 (.va (.bool false)) = lE ps v m t (.va (.bool (rests ps v))) (.va (.tuple ((staAt ps v).2.map eSt))) (.va (.bool (kn ps v m))) (.va (ePa (lessD ps v m))) (.va M) (.va (.bool false)) .no .no from rfl]
    rw [h2]
  refine exq c9 ?_
  -- there and back
  refine exq (if_no (by
    have kt : tNotF (fTru (fBor 4)) (lE ps v m t (.va (.bool (rests ps v))) (.va (.tuple ((staAt ps v).2.map eSt))) (.va (.bool (kn ps v m))) (.va (ePa (lessD ps v m))) (.va M) (.va (.bool false)) .no .no) x6 = some (!kn ps v m, x6) := by
      simp only [tNotF, truV (i := 4) (b := kn ps v m) (env := lE ps v m t (.va (.bool (rests ps v))) (.va (.tuple ((staAt ps v).2.map eSt))) (.va (.bool (kn ps v m))) (.va (ePa (lessD ps v m))) (.va M) (.va (.bool false)) .no .no) rfl]
    cases c : kn ps v m with
    | true => rw [c] at kt; simp only [tAndF, kt]; rfl
    | false =>
      rw [c] at kt
      simp only [tAndF, kt, Bool.not_false]
      exact tst_b (fB (plus_back d rfl rfl rfl rfl c) (vB rfl) ((pt_pa hp).nrf (by omega))))) ?_
  exact law_tail d hx6 _ rfl _ _ _ _ _ _
end Lp
namespace Lw
open PySem RT
theorem main (ns : List Int) (h : ns.length ≤ 63) : ∃ x', b_law (.no :: .rw :: List.replicate 13 .no) ⟨ns, 0, 10121, 0⟩ = some (.rt (.bool true), x') := Lp.law_run (by simp)
end Lw
namespace Lw
open PySem PySem.Spec PyProof.Rows L2 RT
section
theorem all_mk {l : PySem.W.OpenLaw} {w : World} {K : PySem.W.Frag} {h : Heap} {mg : Str → Option Value} {fa : Addr} (X : K.In h) (G : h.Ns mainGlobals mg) (hfa : mg "law" = some (.ref fa))
    {od_law_taken an_law_taken : Option Addr} {sl_law_taken : Array (Option Value)} {oc_law_taken kV_law_taken dc_law_taken pm_law_taken cd_law_taken ct_law_taken : Value} {f_law_taken : Addr}
    (a_law_taken : PySem.W.nsIn K mainGlobals "_law_taken" = some (some (.ref f_law_taken))) (l_law_taken : K.lookup f_law_taken = some ⟨oc_law_taken, od_law_taken, .func (PySem.W.fnOf "_law_taken" "_law_taken" (defArgs s_law_taken) (defBody s_law_taken) (defScope s_law_taken) .none kV_law_taken dc_law_taken pm_law_taken an_law_taken cd_law_taken ct_law_taken), sl_law_taken⟩) (c_law_taken : PySem.W.codeIn K cd_law_taken "_law_taken" = true) (k_law_taken : PySem.W.keepIn K (.ref f_law_taken) = true)
    {od_law_pick an_law_pick : Option Addr} {sl_law_pick : Array (Option Value)} {oc_law_pick kV_law_pick dc_law_pick pm_law_pick cd_law_pick ct_law_pick : Value} {f_law_pick : Addr}
    (a_law_pick : PySem.W.nsIn K mainGlobals "_law_pick" = some (some (.ref f_law_pick))) (l_law_pick : K.lookup f_law_pick = some ⟨oc_law_pick, od_law_pick, .func (PySem.W.fnOf "_law_pick" "_law_pick" (defArgs s_law_pick) (defBody s_law_pick) (defScope s_law_pick) .none kV_law_pick dc_law_pick pm_law_pick an_law_pick cd_law_pick ct_law_pick), sl_law_pick⟩) (c_law_pick : PySem.W.codeIn K cd_law_pick "_law_pick" = true) (k_law_pick : PySem.W.keepIn K (.ref f_law_pick) = true)
    {od_law_state an_law_state : Option Addr} {sl_law_state : Array (Option Value)} {oc_law_state kV_law_state dc_law_state pm_law_state cd_law_state ct_law_state : Value} {f_law_state : Addr}
    (a_law_state : PySem.W.nsIn K mainGlobals "_law_state" = some (some (.ref f_law_state))) (l_law_state : K.lookup f_law_state = some ⟨oc_law_state, od_law_state, .func (PySem.W.fnOf "_law_state" "_law_state" (defArgs s_law_state) (defBody s_law_state) (defScope s_law_state) .none kV_law_state dc_law_state pm_law_state an_law_state cd_law_state ct_law_state), sl_law_state⟩) (c_law_state : PySem.W.codeIn K cd_law_state "_law_state" = true) (k_law_state : PySem.W.keepIn K (.ref f_law_state) = true)
    {od_law_part an_law_part : Option Addr} {sl_law_part : Array (Option Value)} {oc_law_part kV_law_part dc_law_part pm_law_part cd_law_part ct_law_part : Value} {f_law_part : Addr}
    (a_law_part : PySem.W.nsIn K mainGlobals "_law_part" = some (some (.ref f_law_part))) (l_law_part : K.lookup f_law_part = some ⟨oc_law_part, od_law_part, .func (PySem.W.fnOf "_law_part" "_law_part" (defArgs s_law_part) (defBody s_law_part) (defScope s_law_part) .none kV_law_part dc_law_part pm_law_part an_law_part cd_law_part ct_law_part), sl_law_part⟩) (c_law_part : PySem.W.codeIn K cd_law_part "_law_part" = true) (k_law_part : PySem.W.keepIn K (.ref f_law_part) = true)
    {od_law_branches an_law_branches : Option Addr} {sl_law_branches : Array (Option Value)} {oc_law_branches kV_law_branches dc_law_branches pm_law_branches cd_law_branches ct_law_branches : Value} {f_law_branches : Addr}
    (a_law_branches : PySem.W.nsIn K mainGlobals "_law_branches" = some (some (.ref f_law_branches))) (l_law_branches : K.lookup f_law_branches = some ⟨oc_law_branches, od_law_branches, .func (PySem.W.fnOf "_law_branches" "_law_branches" (defArgs s_law_branches) (defBody s_law_branches) (defScope s_law_branches) .none kV_law_branches dc_law_branches pm_law_branches an_law_branches cd_law_branches ct_law_branches), sl_law_branches⟩) (c_law_branches : PySem.W.codeIn K cd_law_branches "_law_branches" = true) (k_law_branches : PySem.W.keepIn K (.ref f_law_branches) = true)
    {od_law_event an_law_event : Option Addr} {sl_law_event : Array (Option Value)} {oc_law_event kV_law_event dc_law_event pm_law_event cd_law_event ct_law_event : Value} {f_law_event : Addr}
    (a_law_event : PySem.W.nsIn K mainGlobals "_law_event" = some (some (.ref f_law_event))) (l_law_event : K.lookup f_law_event = some ⟨oc_law_event, od_law_event, .func (PySem.W.fnOf "_law_event" "_law_event" (defArgs s_law_event) (defBody s_law_event) (defScope s_law_event) .none kV_law_event dc_law_event pm_law_event an_law_event cd_law_event ct_law_event), sl_law_event⟩) (c_law_event : PySem.W.codeIn K cd_law_event "_law_event" = true) (k_law_event : PySem.W.keepIn K (.ref f_law_event) = true)
    {od_law_joined an_law_joined : Option Addr} {sl_law_joined : Array (Option Value)} {oc_law_joined kV_law_joined dc_law_joined pm_law_joined cd_law_joined ct_law_joined : Value} {f_law_joined : Addr}
    (a_law_joined : PySem.W.nsIn K mainGlobals "_law_joined" = some (some (.ref f_law_joined))) (l_law_joined : K.lookup f_law_joined = some ⟨oc_law_joined, od_law_joined, .func (PySem.W.fnOf "_law_joined" "_law_joined" (defArgs s_law_joined) (defBody s_law_joined) (defScope s_law_joined) .none kV_law_joined dc_law_joined pm_law_joined an_law_joined cd_law_joined ct_law_joined), sl_law_joined⟩) (c_law_joined : PySem.W.codeIn K cd_law_joined "_law_joined" = true) (k_law_joined : PySem.W.keepIn K (.ref f_law_joined) = true)
    {od_law_steps an_law_steps : Option Addr} {sl_law_steps : Array (Option Value)} {oc_law_steps kV_law_steps dc_law_steps pm_law_steps cd_law_steps ct_law_steps : Value} {f_law_steps : Addr}
    (a_law_steps : PySem.W.nsIn K mainGlobals "_law_steps" = some (some (.ref f_law_steps))) (l_law_steps : K.lookup f_law_steps = some ⟨oc_law_steps, od_law_steps, .func (PySem.W.fnOf "_law_steps" "_law_steps" (defArgs s_law_steps) (defBody s_law_steps) (defScope s_law_steps) .none kV_law_steps dc_law_steps pm_law_steps an_law_steps cd_law_steps ct_law_steps), sl_law_steps⟩) (c_law_steps : PySem.W.codeIn K cd_law_steps "_law_steps" = true) (k_law_steps : PySem.W.keepIn K (.ref f_law_steps) = true)
    {od_law_cut an_law_cut : Option Addr} {sl_law_cut : Array (Option Value)} {oc_law_cut kV_law_cut dc_law_cut pm_law_cut cd_law_cut ct_law_cut : Value} {f_law_cut : Addr}
    (a_law_cut : PySem.W.nsIn K mainGlobals "_law_cut" = some (some (.ref f_law_cut))) (l_law_cut : K.lookup f_law_cut = some ⟨oc_law_cut, od_law_cut, .func (PySem.W.fnOf "_law_cut" "_law_cut" (defArgs s_law_cut) (defBody s_law_cut) (defScope s_law_cut) .none kV_law_cut dc_law_cut pm_law_cut an_law_cut cd_law_cut ct_law_cut), sl_law_cut⟩) (c_law_cut : PySem.W.codeIn K cd_law_cut "_law_cut" = true) (k_law_cut : PySem.W.keepIn K (.ref f_law_cut) = true)
    {od_law_cast an_law_cast : Option Addr} {sl_law_cast : Array (Option Value)} {oc_law_cast kV_law_cast dc_law_cast pm_law_cast cd_law_cast ct_law_cast : Value} {f_law_cast : Addr}
    (a_law_cast : PySem.W.nsIn K mainGlobals "_law_cast" = some (some (.ref f_law_cast))) (l_law_cast : K.lookup f_law_cast = some ⟨oc_law_cast, od_law_cast, .func (PySem.W.fnOf "_law_cast" "_law_cast" (defArgs s_law_cast) (defBody s_law_cast) (defScope s_law_cast) .none kV_law_cast dc_law_cast pm_law_cast an_law_cast cd_law_cast ct_law_cast), sl_law_cast⟩) (c_law_cast : PySem.W.codeIn K cd_law_cast "_law_cast" = true) (k_law_cast : PySem.W.keepIn K (.ref f_law_cast) = true)
    {od_law_alike an_law_alike : Option Addr} {sl_law_alike : Array (Option Value)} {oc_law_alike kV_law_alike dc_law_alike pm_law_alike cd_law_alike ct_law_alike : Value} {f_law_alike : Addr}
    (a_law_alike : PySem.W.nsIn K mainGlobals "_law_alike" = some (some (.ref f_law_alike))) (l_law_alike : K.lookup f_law_alike = some ⟨oc_law_alike, od_law_alike, .func (PySem.W.fnOf "_law_alike" "_law_alike" (defArgs s_law_alike) (defBody s_law_alike) (defScope s_law_alike) .none kV_law_alike dc_law_alike pm_law_alike an_law_alike cd_law_alike ct_law_alike), sl_law_alike⟩) (c_law_alike : PySem.W.codeIn K cd_law_alike "_law_alike" = true) (k_law_alike : PySem.W.keepIn K (.ref f_law_alike) = true)
    {od_law_scene an_law_scene : Option Addr} {sl_law_scene : Array (Option Value)} {oc_law_scene kV_law_scene dc_law_scene pm_law_scene cd_law_scene ct_law_scene : Value} {f_law_scene : Addr}
    (a_law_scene : PySem.W.nsIn K mainGlobals "_law_scene" = some (some (.ref f_law_scene))) (l_law_scene : K.lookup f_law_scene = some ⟨oc_law_scene, od_law_scene, .func (PySem.W.fnOf "_law_scene" "_law_scene" (defArgs s_law_scene) (defBody s_law_scene) (defScope s_law_scene) .none kV_law_scene dc_law_scene pm_law_scene an_law_scene cd_law_scene ct_law_scene), sl_law_scene⟩) (c_law_scene : PySem.W.codeIn K cd_law_scene "_law_scene" = true) (k_law_scene : PySem.W.keepIn K (.ref f_law_scene) = true)
    {od_law_script an_law_script : Option Addr} {sl_law_script : Array (Option Value)} {oc_law_script kV_law_script dc_law_script pm_law_script cd_law_script ct_law_script : Value} {f_law_script : Addr}
    (a_law_script : PySem.W.nsIn K mainGlobals "_law_script" = some (some (.ref f_law_script))) (l_law_script : K.lookup f_law_script = some ⟨oc_law_script, od_law_script, .func (PySem.W.fnOf "_law_script" "_law_script" (defArgs s_law_script) (defBody s_law_script) (defScope s_law_script) .none kV_law_script dc_law_script pm_law_script an_law_script cd_law_script ct_law_script), sl_law_script⟩) (c_law_script : PySem.W.codeIn K cd_law_script "_law_script" = true) (k_law_script : PySem.W.keepIn K (.ref f_law_script) = true)
    {od_has_items an_has_items : Option Addr} {sl_has_items : Array (Option Value)} {oc_has_items kV_has_items dc_has_items pm_has_items cd_has_items ct_has_items : Value} {f_has_items : Addr}
    (a_has_items : PySem.W.nsIn K mainGlobals "has_items" = some (some (.ref f_has_items))) (l_has_items : K.lookup f_has_items = some ⟨oc_has_items, od_has_items, .func (PySem.W.fnOf "has_items" "has_items" (defArgs s_has_items) (defBody s_has_items) (defScope s_has_items) .none kV_has_items dc_has_items pm_has_items an_has_items cd_has_items ct_has_items), sl_has_items⟩) (c_has_items : PySem.W.codeIn K cd_has_items "has_items" = true) (k_has_items : PySem.W.keepIn K (.ref f_has_items) = true)
    {od_is_rising an_is_rising : Option Addr} {sl_is_rising : Array (Option Value)} {oc_is_rising kV_is_rising dc_is_rising pm_is_rising cd_is_rising ct_is_rising : Value} {f_is_rising : Addr}
    (a_is_rising : PySem.W.nsIn K mainGlobals "is_rising" = some (some (.ref f_is_rising))) (l_is_rising : K.lookup f_is_rising = some ⟨oc_is_rising, od_is_rising, .func (PySem.W.fnOf "is_rising" "is_rising" (defArgs s_is_rising) (defBody s_is_rising) (defScope s_is_rising) .none kV_is_rising dc_is_rising pm_is_rising an_is_rising cd_is_rising ct_is_rising), sl_is_rising⟩) (c_is_rising : PySem.W.codeIn K cd_is_rising "is_rising" = true) (k_is_rising : PySem.W.keepIn K (.ref f_is_rising) = true)
    {od_is_number an_is_number : Option Addr} {sl_is_number : Array (Option Value)} {oc_is_number kV_is_number dc_is_number pm_is_number cd_is_number ct_is_number : Value} {f_is_number : Addr}
    (a_is_number : PySem.W.nsIn K mainGlobals "is_number" = some (some (.ref f_is_number))) (l_is_number : K.lookup f_is_number = some ⟨oc_is_number, od_is_number, .func (PySem.W.fnOf "is_number" "is_number" (defArgs s_is_number) (defBody s_is_number) (defScope s_is_number) .none kV_is_number dc_is_number pm_is_number an_is_number cd_is_number ct_is_number), sl_is_number⟩) (c_is_number : PySem.W.codeIn K cd_is_number "is_number" = true) (k_is_number : PySem.W.keepIn K (.ref f_is_number) = true)
    {od_is_event an_is_event : Option Addr} {sl_is_event : Array (Option Value)} {oc_is_event kV_is_event dc_is_event pm_is_event cd_is_event ct_is_event : Value} {f_is_event : Addr}
    (a_is_event : PySem.W.nsIn K mainGlobals "is_event" = some (some (.ref f_is_event))) (l_is_event : K.lookup f_is_event = some ⟨oc_is_event, od_is_event, .func (PySem.W.fnOf "is_event" "is_event" (defArgs s_is_event) (defBody s_is_event) (defScope s_is_event) .none kV_is_event dc_is_event pm_is_event an_is_event cd_is_event ct_is_event), sl_is_event⟩) (c_is_event : PySem.W.codeIn K cd_is_event "is_event" = true) (k_is_event : PySem.W.keepIn K (.ref f_is_event) = true)
    {od_is_step an_is_step : Option Addr} {sl_is_step : Array (Option Value)} {oc_is_step kV_is_step dc_is_step pm_is_step cd_is_step ct_is_step : Value} {f_is_step : Addr}
    (a_is_step : PySem.W.nsIn K mainGlobals "is_step" = some (some (.ref f_is_step))) (l_is_step : K.lookup f_is_step = some ⟨oc_is_step, od_is_step, .func (PySem.W.fnOf "is_step" "is_step" (defArgs s_is_step) (defBody s_is_step) (defScope s_is_step) .none kV_is_step dc_is_step pm_is_step an_is_step cd_is_step ct_is_step), sl_is_step⟩) (c_is_step : PySem.W.codeIn K cd_is_step "is_step" = true) (k_is_step : PySem.W.keepIn K (.ref f_is_step) = true)
    {od_is_state an_is_state : Option Addr} {sl_is_state : Array (Option Value)} {oc_is_state kV_is_state dc_is_state pm_is_state cd_is_state ct_is_state : Value} {f_is_state : Addr}
    (a_is_state : PySem.W.nsIn K mainGlobals "is_state" = some (some (.ref f_is_state))) (l_is_state : K.lookup f_is_state = some ⟨oc_is_state, od_is_state, .func (PySem.W.fnOf "is_state" "is_state" (defArgs s_is_state) (defBody s_is_state) (defScope s_is_state) .none kV_is_state dc_is_state pm_is_state an_is_state cd_is_state ct_is_state), sl_is_state⟩) (c_is_state : PySem.W.codeIn K cd_is_state "is_state" = true) (k_is_state : PySem.W.keepIn K (.ref f_is_state) = true)
    {od_is_part an_is_part : Option Addr} {sl_is_part : Array (Option Value)} {oc_is_part kV_is_part dc_is_part pm_is_part cd_is_part ct_is_part : Value} {f_is_part : Addr}
    (a_is_part : PySem.W.nsIn K mainGlobals "is_part" = some (some (.ref f_is_part))) (l_is_part : K.lookup f_is_part = some ⟨oc_is_part, od_is_part, .func (PySem.W.fnOf "is_part" "is_part" (defArgs s_is_part) (defBody s_is_part) (defScope s_is_part) .none kV_is_part dc_is_part pm_is_part an_is_part cd_is_part ct_is_part), sl_is_part⟩) (c_is_part : PySem.W.codeIn K cd_is_part "is_part" = true) (k_is_part : PySem.W.keepIn K (.ref f_is_part) = true)
    {od_is_other an_is_other : Option Addr} {sl_is_other : Array (Option Value)} {oc_is_other kV_is_other dc_is_other pm_is_other cd_is_other ct_is_other : Value} {f_is_other : Addr}
    (a_is_other : PySem.W.nsIn K mainGlobals "is_other" = some (some (.ref f_is_other))) (l_is_other : K.lookup f_is_other = some ⟨oc_is_other, od_is_other, .func (PySem.W.fnOf "is_other" "is_other" (defArgs s_is_other) (defBody s_is_other) (defScope s_is_other) .none kV_is_other dc_is_other pm_is_other an_is_other cd_is_other ct_is_other), sl_is_other⟩) (c_is_other : PySem.W.codeIn K cd_is_other "is_other" = true) (k_is_other : PySem.W.keepIn K (.ref f_is_other) = true)
    {od_is_part_of an_is_part_of : Option Addr} {sl_is_part_of : Array (Option Value)} {oc_is_part_of kV_is_part_of dc_is_part_of pm_is_part_of cd_is_part_of ct_is_part_of : Value} {f_is_part_of : Addr}
    (a_is_part_of : PySem.W.nsIn K mainGlobals "is_part_of" = some (some (.ref f_is_part_of))) (l_is_part_of : K.lookup f_is_part_of = some ⟨oc_is_part_of, od_is_part_of, .func (PySem.W.fnOf "is_part_of" "is_part_of" (defArgs s_is_part_of) (defBody s_is_part_of) (defScope s_is_part_of) .none kV_is_part_of dc_is_part_of pm_is_part_of an_is_part_of cd_is_part_of ct_is_part_of), sl_is_part_of⟩) (c_is_part_of : PySem.W.codeIn K cd_is_part_of "is_part_of" = true) (k_is_part_of : PySem.W.keepIn K (.ref f_is_part_of) = true)
    {od_check_cast an_check_cast : Option Addr} {sl_check_cast : Array (Option Value)} {oc_check_cast kV_check_cast dc_check_cast pm_check_cast cd_check_cast ct_check_cast : Value} {f_check_cast : Addr}
    (a_check_cast : PySem.W.nsIn K mainGlobals "check_cast" = some (some (.ref f_check_cast))) (l_check_cast : K.lookup f_check_cast = some ⟨oc_check_cast, od_check_cast, .func (PySem.W.fnOf "check_cast" "check_cast" (defArgs s_check_cast) (defBody s_check_cast) (defScope s_check_cast) .none kV_check_cast dc_check_cast pm_check_cast an_check_cast cd_check_cast ct_check_cast), sl_check_cast⟩) (c_check_cast : PySem.W.codeIn K cd_check_cast "check_cast" = true) (k_check_cast : PySem.W.keepIn K (.ref f_check_cast) = true)
    {od_check_actor an_check_actor : Option Addr} {sl_check_actor : Array (Option Value)} {oc_check_actor kV_check_actor dc_check_actor pm_check_actor cd_check_actor ct_check_actor : Value} {f_check_actor : Addr}
    (a_check_actor : PySem.W.nsIn K mainGlobals "check_actor" = some (some (.ref f_check_actor))) (l_check_actor : K.lookup f_check_actor = some ⟨oc_check_actor, od_check_actor, .func (PySem.W.fnOf "check_actor" "check_actor" (defArgs s_check_actor) (defBody s_check_actor) (defScope s_check_actor) .none kV_check_actor dc_check_actor pm_check_actor an_check_actor cd_check_actor ct_check_actor), sl_check_actor⟩) (c_check_actor : PySem.W.codeIn K cd_check_actor "check_actor" = true) (k_check_actor : PySem.W.keepIn K (.ref f_check_actor) = true)
    {od_check_part an_check_part : Option Addr} {sl_check_part : Array (Option Value)} {oc_check_part kV_check_part dc_check_part pm_check_part cd_check_part ct_check_part : Value} {f_check_part : Addr}
    (a_check_part : PySem.W.nsIn K mainGlobals "check_part" = some (some (.ref f_check_part))) (l_check_part : K.lookup f_check_part = some ⟨oc_check_part, od_check_part, .func (PySem.W.fnOf "check_part" "check_part" (defArgs s_check_part) (defBody s_check_part) (defScope s_check_part) .none kV_check_part dc_check_part pm_check_part an_check_part cd_check_part ct_check_part), sl_check_part⟩) (c_check_part : PySem.W.codeIn K cd_check_part "check_part" = true) (k_check_part : PySem.W.keepIn K (.ref f_check_part) = true)
    {od_replaced an_replaced : Option Addr} {sl_replaced : Array (Option Value)} {oc_replaced kV_replaced dc_replaced pm_replaced cd_replaced ct_replaced : Value} {f_replaced : Addr}
    (a_replaced : PySem.W.nsIn K mainGlobals "replaced" = some (some (.ref f_replaced))) (l_replaced : K.lookup f_replaced = some ⟨oc_replaced, od_replaced, .func (PySem.W.fnOf "replaced" "replaced" (defArgs s_replaced) (defBody s_replaced) (defScope s_replaced) .none kV_replaced dc_replaced pm_replaced an_replaced cd_replaced ct_replaced), sl_replaced⟩) (c_replaced : PySem.W.codeIn K cd_replaced "replaced" = true) (k_replaced : PySem.W.keepIn K (.ref f_replaced) = true)
    {od_with_part an_with_part : Option Addr} {sl_with_part : Array (Option Value)} {oc_with_part kV_with_part dc_with_part pm_with_part cd_with_part ct_with_part : Value} {f_with_part : Addr}
    (a_with_part : PySem.W.nsIn K mainGlobals "with_part" = some (some (.ref f_with_part))) (l_with_part : K.lookup f_with_part = some ⟨oc_with_part, od_with_part, .func (PySem.W.fnOf "with_part" "with_part" (defArgs s_with_part) (defBody s_with_part) (defScope s_with_part) .none kV_with_part dc_with_part pm_with_part an_with_part cd_with_part ct_with_part), sl_with_part⟩) (c_with_part : PySem.W.codeIn K cd_with_part "with_part" = true) (k_with_part : PySem.W.keepIn K (.ref f_with_part) = true)
    {od_law_told an_law_told : Option Addr} {sl_law_told : Array (Option Value)} {oc_law_told kV_law_told dc_law_told pm_law_told cd_law_told ct_law_told : Value} {f_law_told : Addr}
    (a_law_told : PySem.W.nsIn K mainGlobals "_law_told" = some (some (.ref f_law_told))) (l_law_told : K.lookup f_law_told = some ⟨oc_law_told, od_law_told, .func (PySem.W.fnOf "_law_told" "_law_told" (defArgs s_law_told) (defBody s_law_told) (defScope s_law_told) .none kV_law_told dc_law_told pm_law_told an_law_told cd_law_told ct_law_told), sl_law_told⟩) (c_law_told : PySem.W.codeIn K cd_law_told "_law_told" = true) (k_law_told : PySem.W.keepIn K (.ref f_law_told) = true)
    {od_check_number an_check_number : Option Addr} {sl_check_number : Array (Option Value)} {oc_check_number kV_check_number dc_check_number pm_check_number cd_check_number ct_check_number : Value} {f_check_number : Addr}
    (a_check_number : PySem.W.nsIn K mainGlobals "check_number" = some (some (.ref f_check_number))) (l_check_number : K.lookup f_check_number = some ⟨oc_check_number, od_check_number, .func (PySem.W.fnOf "check_number" "check_number" (defArgs s_check_number) (defBody s_check_number) (defScope s_check_number) .none kV_check_number dc_check_number pm_check_number an_check_number cd_check_number ct_check_number), sl_check_number⟩) (c_check_number : PySem.W.codeIn K cd_check_number "check_number" = true) (k_check_number : PySem.W.keepIn K (.ref f_check_number) = true)
    {od_check_state_of an_check_state_of : Option Addr} {sl_check_state_of : Array (Option Value)} {oc_check_state_of kV_check_state_of dc_check_state_of pm_check_state_of cd_check_state_of ct_check_state_of : Value} {f_check_state_of : Addr}
    (a_check_state_of : PySem.W.nsIn K mainGlobals "check_state_of" = some (some (.ref f_check_state_of))) (l_check_state_of : K.lookup f_check_state_of = some ⟨oc_check_state_of, od_check_state_of, .func (PySem.W.fnOf "check_state_of" "check_state_of" (defArgs s_check_state_of) (defBody s_check_state_of) (defScope s_check_state_of) .none kV_check_state_of dc_check_state_of pm_check_state_of an_check_state_of cd_check_state_of ct_check_state_of), sl_check_state_of⟩) (c_check_state_of : PySem.W.codeIn K cd_check_state_of "check_state_of" = true) (k_check_state_of : PySem.W.keepIn K (.ref f_check_state_of) = true)
    {od_check_event an_check_event : Option Addr} {sl_check_event : Array (Option Value)} {oc_check_event kV_check_event dc_check_event pm_check_event cd_check_event ct_check_event : Value} {f_check_event : Addr}
    (a_check_event : PySem.W.nsIn K mainGlobals "check_event" = some (some (.ref f_check_event))) (l_check_event : K.lookup f_check_event = some ⟨oc_check_event, od_check_event, .func (PySem.W.fnOf "check_event" "check_event" (defArgs s_check_event) (defBody s_check_event) (defScope s_check_event) .none kV_check_event dc_check_event pm_check_event an_check_event cd_check_event ct_check_event), sl_check_event⟩) (c_check_event : PySem.W.codeIn K cd_check_event "check_event" = true) (k_check_event : PySem.W.keepIn K (.ref f_check_event) = true)
    {od_behind_events an_behind_events : Option Addr} {sl_behind_events : Array (Option Value)} {oc_behind_events kV_behind_events dc_behind_events pm_behind_events cd_behind_events ct_behind_events : Value} {f_behind_events : Addr}
    (a_behind_events : PySem.W.nsIn K mainGlobals "behind_events" = some (some (.ref f_behind_events))) (l_behind_events : K.lookup f_behind_events = some ⟨oc_behind_events, od_behind_events, .func (PySem.W.fnOf "behind_events" "behind_events" (defArgs s_behind_events) (defBody s_behind_events) (defScope s_behind_events) .none kV_behind_events dc_behind_events pm_behind_events an_behind_events cd_behind_events ct_behind_events), sl_behind_events⟩) (c_behind_events : PySem.W.codeIn K cd_behind_events "behind_events" = true) (k_behind_events : PySem.W.keepIn K (.ref f_behind_events) = true)
    {od_without_event an_without_event : Option Addr} {sl_without_event : Array (Option Value)} {oc_without_event kV_without_event dc_without_event pm_without_event cd_without_event ct_without_event : Value} {f_without_event : Addr}
    (a_without_event : PySem.W.nsIn K mainGlobals "without_event" = some (some (.ref f_without_event))) (l_without_event : K.lookup f_without_event = some ⟨oc_without_event, od_without_event, .func (PySem.W.fnOf "without_event" "without_event" (defArgs s_without_event) (defBody s_without_event) (defScope s_without_event) .none kV_without_event dc_without_event pm_without_event an_without_event cd_without_event ct_without_event), sl_without_event⟩) (c_without_event : PySem.W.codeIn K cd_without_event "without_event" = true) (k_without_event : PySem.W.keepIn K (.ref f_without_event) = true)
    {od_resting an_resting : Option Addr} {sl_resting : Array (Option Value)} {oc_resting kV_resting dc_resting pm_resting cd_resting ct_resting : Value} {f_resting : Addr}
    (a_resting : PySem.W.nsIn K mainGlobals "resting" = some (some (.ref f_resting))) (l_resting : K.lookup f_resting = some ⟨oc_resting, od_resting, .func (PySem.W.fnOf "resting" "resting" (defArgs s_resting) (defBody s_resting) (defScope s_resting) .none kV_resting dc_resting pm_resting an_resting cd_resting ct_resting), sl_resting⟩) (c_resting : PySem.W.codeIn K cd_resting "resting" = true) (k_resting : PySem.W.keepIn K (.ref f_resting) = true)
    {od_plus_event an_plus_event : Option Addr} {sl_plus_event : Array (Option Value)} {oc_plus_event kV_plus_event dc_plus_event pm_plus_event cd_plus_event ct_plus_event : Value} {f_plus_event : Addr}
    (a_plus_event : PySem.W.nsIn K mainGlobals "plus_event" = some (some (.ref f_plus_event))) (l_plus_event : K.lookup f_plus_event = some ⟨oc_plus_event, od_plus_event, .func (PySem.W.fnOf "plus_event" "plus_event" (defArgs s_plus_event) (defBody s_plus_event) (defScope s_plus_event) .none kV_plus_event dc_plus_event pm_plus_event an_plus_event cd_plus_event ct_plus_event), sl_plus_event⟩) (c_plus_event : PySem.W.codeIn K cd_plus_event "plus_event" = true) (k_plus_event : PySem.W.keepIn K (.ref f_plus_event) = true)
    {od_law an_law : Option Addr} {sl_law : Array (Option Value)} {oc_law kV_law dc_law pm_law cd_law ct_law : Value} {f_law : Addr}
    (a_law : PySem.W.nsIn K mainGlobals "law" = some (some (.ref f_law))) (l_law : K.lookup f_law = some ⟨oc_law, od_law, .func (PySem.W.fnOf "law" "law" (defArgs s_law) (defBody s_law) (defScope s_law) .none kV_law dc_law pm_law an_law cd_law ct_law), sl_law⟩) (c_law : PySem.W.codeIn K cd_law "law" = true) (k_law : PySem.W.keepIn K (.ref f_law) = true)
    (z_all : PySem.W.nsIn K mainGlobals "all" = some none)
    (z_bool : PySem.W.nsIn K mainGlobals "bool" = some none)
    (z_dict : PySem.W.nsIn K mainGlobals "dict" = some none)
    (z_enumerate : PySem.W.nsIn K mainGlobals "enumerate" = some none)
    (z_int : PySem.W.nsIn K mainGlobals "int" = some none)
    (z_isinstance : PySem.W.nsIn K mainGlobals "isinstance" = some none)
    (z_len : PySem.W.nsIn K mainGlobals "len" = some none)
    (z_list : PySem.W.nsIn K mainGlobals "list" = some none)
    (z_range : PySem.W.nsIn K mainGlobals "range" = some none)
    (z_sorted : PySem.W.nsIn K mainGlobals "sorted" = some none)
    (z_str : PySem.W.nsIn K mainGlobals "str" = some none)
    (z_tuple : PySem.W.nsIn K mainGlobals "tuple" = some none)
    {t_LAST_ACTOR : Tok} (q_LAST_ACTOR : PySem.W.nsIn K mainGlobals "LAST_ACTOR" = some (some (.int 3 t_LAST_ACTOR)))
    {t_LAST_WORD : Tok} (q_LAST_WORD : PySem.W.nsIn K mainGlobals "LAST_WORD" = some (some (.int 5 t_LAST_WORD)))
    {t_LEAST_ACTORS : Tok} (q_LEAST_ACTORS : PySem.W.nsIn K mainGlobals "LEAST_ACTORS" = some (some (.int 2 t_LEAST_ACTORS)))
    {t_MOST_ACTORS : Tok} (q_MOST_ACTORS : PySem.W.nsIn K mainGlobals "MOST_ACTORS" = some (some (.int 4 t_MOST_ACTORS)))
    {t_MOST_STATES : Tok} (q_MOST_STATES : PySem.W.nsIn K mainGlobals "MOST_STATES" = some (some (.int 255 t_MOST_STATES)))
    {ad_KINDS : Addr} {oc_KINDS : Value} {od_KINDS : Option Addr} {is_KINDS : Array Value} {no_KINDS : Nat} {sl_KINDS : Array (Option Value)} (q_KINDS : PySem.W.nsIn K mainGlobals "KINDS" = some (some (.ref ad_KINDS))) (l_KINDS : K.lookup ad_KINDS = some ⟨oc_KINDS, od_KINDS, .seq is_KINDS no_KINDS, sl_KINDS⟩) (e_KINDS : oc_KINDS = .type "tuple") (n_KINDS : is_KINDS.size ≤ sizeLine) (v_KINDS : Vals ([Str.ofString "hear", Str.ofString "say"].map V.str) is_KINDS.toList)
    {C_NotMade : Addr} (aE_NotMade : PySem.W.nsIn K mainGlobals "NotMade" = some (some (.ref C_NotMade))) (sE_NotMade : PySem.W.subIn K (.ref C_NotMade) (.type "BaseException") = some true) (tE_NotMade : PySem.W.typeIn K (.ref C_NotMade) = some (.type "type")) (xE_NotMade : PySem.W.excIn K C_NotMade [.type "ValueError", .type "Exception", .type "BaseException", .type "object"] "ValueError.__new__" = true) (kE_NotMade : PySem.W.keepIn K (.ref C_NotMade) = true) (lE_NotMade : PySem.W.isClsIn K C_NotMade = true) (gE_NotMade : PySem.W.findIn K (.ref C_NotMade) "__getattribute__" = some (some (.builtin "BaseException.__getattribute__"))) (ggE_NotMade : PySem.W.findIn K (.ref C_NotMade) "__getattr__" = some none) (cE_NotMade : PySem.W.findIn K (.ref C_NotMade) "__class__" = some (some (.builtin "object.__class__"))) (mE_NotMade : PySem.W.mroIn K C_NotMade (.type "object") = some true)
    {C_TalkError : Addr} (aE_TalkError : PySem.W.nsIn K mainGlobals "TalkError" = some (some (.ref C_TalkError))) (sE_TalkError : PySem.W.subIn K (.ref C_TalkError) (.type "BaseException") = some true) (tE_TalkError : PySem.W.typeIn K (.ref C_TalkError) = some (.type "type")) (hE_TalkError : PySem.W.hasDictIn K C_TalkError = true)
    (uE_NotMade : PySem.W.subIn K (.ref C_NotMade) (.ref C_TalkError) = some true) (ktE_NotMade : PySem.W.kitOne K (.ref C_NotMade) (.ref C_NotMade) = some true)
    (spE : PySem.W.specialIn K (.builtin "object.__class__") "__get__" = some (some (.builtin "getset_descriptor.__get__"))) (tkE : PySem.W.takesIn K (.builtin "object.__class__") = some true)
    {cc_law pp_law : Addr} (ti_law : PySem.W.tabIn K "law" = some (cc_law, pp_law)) :
    ∃ fd : FuncData, (∀ (s : Shared) (v : Value), BindsTo s fd ⟨[v], []⟩ [("script", v)]) ∧ ∀ base : Heap, K.In base → base.Ns mainGlobals mg → (∀ p ∈ ([(cc_law, pp_law)] : List (Addr × Addr)), LamX.TabB base mg p.1 p.2) → FnOk l.prog w K mg base CX0 11 fa fd ["script"] (spLaw K b_law 13 10121) := by
  have e := hfa.symm.trans (PySem.W.mg_of X G a_law)
  cases e
  have F_law_taken := fun_mk (st := s_law_taken) l_law_taken c_law_taken k_law_taken
  have F_law_pick := fun_mk (st := s_law_pick) l_law_pick c_law_pick k_law_pick
  have F_law_state := fun_mk (st := s_law_state) l_law_state c_law_state k_law_state
  have F_law_part := fun_mk (st := s_law_part) l_law_part c_law_part k_law_part
  have F_law_branches := fun_mk (st := s_law_branches) l_law_branches c_law_branches k_law_branches
  have F_law_event := fun_mk (st := s_law_event) l_law_event c_law_event k_law_event
  have F_law_joined := fun_mk (st := s_law_joined) l_law_joined c_law_joined k_law_joined
  have F_law_steps := fun_mk (st := s_law_steps) l_law_steps c_law_steps k_law_steps
  have F_law_cut := fun_mk (st := s_law_cut) l_law_cut c_law_cut k_law_cut
  have F_law_cast := fun_mk (st := s_law_cast) l_law_cast c_law_cast k_law_cast
  have F_law_alike := fun_mk (st := s_law_alike) l_law_alike c_law_alike k_law_alike
  have F_law_scene := fun_mk (st := s_law_scene) l_law_scene c_law_scene k_law_scene
  have F_law_script := fun_mk (st := s_law_script) l_law_script c_law_script k_law_script
  have F_has_items := fun_mk (st := s_has_items) l_has_items c_has_items k_has_items
  have F_is_rising := fun_mk (st := s_is_rising) l_is_rising c_is_rising k_is_rising
  have F_is_number := fun_mk (st := s_is_number) l_is_number c_is_number k_is_number
  have F_is_event := fun_mk (st := s_is_event) l_is_event c_is_event k_is_event
  have F_is_step := fun_mk (st := s_is_step) l_is_step c_is_step k_is_step
  have F_is_state := fun_mk (st := s_is_state) l_is_state c_is_state k_is_state
  have F_is_part := fun_mk (st := s_is_part) l_is_part c_is_part k_is_part
  have F_is_other := fun_mk (st := s_is_other) l_is_other c_is_other k_is_other
  have F_is_part_of := fun_mk (st := s_is_part_of) l_is_part_of c_is_part_of k_is_part_of
  have F_check_cast := fun_mk (st := s_check_cast) l_check_cast c_check_cast k_check_cast
  have F_check_actor := fun_mk (st := s_check_actor) l_check_actor c_check_actor k_check_actor
  have F_check_part := fun_mk (st := s_check_part) l_check_part c_check_part k_check_part
  have F_replaced := fun_mk (st := s_replaced) l_replaced c_replaced k_replaced
  have F_with_part := fun_mk (st := s_with_part) l_with_part c_with_part k_with_part
  have F_law_told := fun_mk (st := s_law_told) l_law_told c_law_told k_law_told
  have F_check_number := fun_mk (st := s_check_number) l_check_number c_check_number k_check_number
  have F_check_state_of := fun_mk (st := s_check_state_of) l_check_state_of c_check_state_of k_check_state_of
  have F_check_event := fun_mk (st := s_check_event) l_check_event c_check_event k_check_event
  have F_behind_events := fun_mk (st := s_behind_events) l_behind_events c_behind_events k_behind_events
  have F_without_event := fun_mk (st := s_without_event) l_without_event c_without_event k_without_event
  have F_resting := fun_mk (st := s_resting) l_resting c_resting k_resting
  have F_plus_event := fun_mk (st := s_plus_event) l_plus_event c_plus_event k_plus_event
  have F_law := fun_mk (st := s_law) l_law c_law k_law
  have b_law_taken := F_law_taken.binds (ps := ["row", "many"]) fun _ _ _ _ _ _ us hl => match us, hl with | [_, _], _ => rfl
  have C_law_taken : ∀ base : Heap, (∀ p ∈ ([(cc_law, pp_law)] : List (Addr × Addr)), LamX.TabB base mg p.1 p.2) → Callee l.prog w K mg base 1 "_law_taken" (spR K m_law_taken) := fun base tbs => ⟨f_law_taken, _, _, ok_law_taken (k := 0) F_law_taken (PySem.W.mg_none_of X G z_int) (PySem.W.mg_none_of X G z_len), PySem.W.mg_of X G a_law_taken, k_law_taken, b_law_taken⟩
  have b_law_pick := F_law_pick.binds (ps := ["row", "kinds"]) fun _ _ _ _ _ _ us hl => match us, hl with | [_, _], _ => rfl
  have C_law_pick : ∀ base : Heap, (∀ p ∈ ([(cc_law, pp_law)] : List (Addr × Addr)), LamX.TabB base mg p.1 p.2) → Callee l.prog w K mg base 2 "_law_pick" (spR K m_law_pick) := fun base tbs => ⟨f_law_pick, _, _, ok_law_pick (k := 1) F_law_pick ((C_law_taken base tbs).mono (by decide)) (PySem.W.mg_none_of X G z_len), PySem.W.mg_of X G a_law_pick, k_law_pick, b_law_pick⟩
  have b_law_state := F_law_state.binds (ps := ["row", "size", "plain"]) fun _ _ _ _ _ _ us hl => match us, hl with | [_, _, _], _ => rfl
  have C_law_state : ∀ base : Heap, (∀ p ∈ ([(cc_law, pp_law)] : List (Addr × Addr)), LamX.TabB base mg p.1 p.2) → Callee l.prog w K mg base 3 "_law_state" (spR K m_law_state) := fun base tbs => ⟨f_law_state, _, _, ok_law_state (k := 2) F_law_state ((C_law_taken base tbs).mono (by decide)) ((C_law_pick base tbs).mono (by decide)) (PySem.W.mg_none_of X G z_tuple) (PySem.W.mg_none_of X G z_sorted) (PySem.W.mg_none_of X G z_list) (PySem.W.mg_none_of X G z_range), PySem.W.mg_of X G a_law_state, k_law_state, b_law_state⟩
  have b_law_part := F_law_part.binds (ps := ["row", "most", "plain"]) fun _ _ _ _ _ _ us hl => match us, hl with | [_, _, _], _ => rfl
  have C_law_part : ∀ base : Heap, (∀ p ∈ ([(cc_law, pp_law)] : List (Addr × Addr)), LamX.TabB base mg p.1 p.2) → Callee l.prog w K mg base 4 "_law_part" (spR K m_law_part) := fun base tbs => ⟨f_law_part, _, _, ok_law_part (k := 3) F_law_part ((C_law_state base tbs).mono (by decide)) ((C_law_taken base tbs).mono (by decide)) (PySem.W.mg_none_of X G z_tuple) (PySem.W.mg_none_of X G z_range), PySem.W.mg_of X G a_law_part, k_law_part, b_law_part⟩
  have b_law_branches := F_law_branches.binds (ps := ["script", "scene"]) fun _ _ _ _ _ _ us hl => match us, hl with | [_, _], _ => rfl
  have C_law_branches : ∀ base : Heap, (∀ p ∈ ([(cc_law, pp_law)] : List (Addr × Addr)), LamX.TabB base mg p.1 p.2) → Callee l.prog w K mg base 1 "_law_branches" (spF K m_law_branches) := fun base tbs => ⟨f_law_branches, _, _, ok_law_branches (k := 0) F_law_branches, PySem.W.mg_of X G a_law_branches, k_law_branches, b_law_branches⟩
  have b_law_event := F_law_event.binds (ps := ["script", "scene", "branch", "actor"]) fun _ _ _ _ _ _ us hl => match us, hl with | [_, _, _, _], _ => rfl
  have C_law_event : ∀ base : Heap, (∀ p ∈ ([(cc_law, pp_law)] : List (Addr × Addr)), LamX.TabB base mg p.1 p.2) → Callee l.prog w K mg base 1 "_law_event" (spF K m_law_event) := fun base tbs => ⟨f_law_event, _, _, ok_law_event (k := 0) F_law_event, PySem.W.mg_of X G a_law_event, k_law_event, b_law_event⟩
  have b_law_joined := F_law_joined.binds (ps := ["script", "scenes", "actor"]) fun _ _ _ _ _ _ us hl => match us, hl with | [_, _, _], _ => rfl
  have C_law_joined : ∀ base : Heap, (∀ p ∈ ([(cc_law, pp_law)] : List (Addr × Addr)), LamX.TabB base mg p.1 p.2) → Callee l.prog w K mg base 2 "_law_joined" (spF K m_law_joined) := fun base tbs => ⟨f_law_joined, _, _, ok_law_joined (k := 1) F_law_joined ((C_law_branches base tbs).mono (by decide)) ((C_law_event base tbs).mono (by decide)) (PySem.W.mg_none_of X G z_tuple) (PySem.W.mg_none_of X G z_sorted) (PySem.W.mg_none_of X G z_list) (PySem.W.mg_none_of X G z_dict), PySem.W.mg_of X G a_law_joined, k_law_joined, b_law_joined⟩
  have b_law_steps := F_law_steps.binds (ps := ["script", "scenes", "actor"]) fun _ _ _ _ _ _ us hl => match us, hl with | [_, _, _], _ => rfl
  have C_law_steps : ∀ base : Heap, (∀ p ∈ ([(cc_law, pp_law)] : List (Addr × Addr)), LamX.TabB base mg p.1 p.2) → Callee l.prog w K mg base 3 "_law_steps" (spF K m_law_steps) := fun base tbs => ⟨f_law_steps, _, _, ok_law_steps (k := 2) F_law_steps ((C_law_joined base tbs).mono (by decide)) ((C_law_branches base tbs).mono (by decide)) ((C_law_event base tbs).mono (by decide)) (PySem.W.mg_none_of X G z_sorted) (PySem.W.mg_none_of X G z_list), PySem.W.mg_of X G a_law_steps, k_law_steps, b_law_steps⟩
  have b_law_cut := F_law_cut.binds (ps := ["script", "actor"]) fun _ _ _ _ _ _ us hl => match us, hl with | [_, _], _ => rfl
  have C_law_cut : ∀ base : Heap, (∀ p ∈ ([(cc_law, pp_law)] : List (Addr × Addr)), LamX.TabB base mg p.1 p.2) → Callee l.prog w K mg base 4 "_law_cut" (spF K m_law_cut) := fun base tbs => ⟨f_law_cut, _, _, ok_law_cut (k := 3) F_law_cut ((C_law_steps base tbs).mono (by decide)) ((C_law_joined base tbs).mono (by decide)) (PySem.W.mg_none_of X G z_tuple) (PySem.W.mg_none_of X G z_len), PySem.W.mg_of X G a_law_cut, k_law_cut, b_law_cut⟩
  have b_law_cast := F_law_cast.binds (ps := ["script"]) fun _ _ _ _ _ _ us hl => match us, hl with | [_], _ => rfl
  have C_law_cast : ∀ base : Heap, (∀ p ∈ ([(cc_law, pp_law)] : List (Addr × Addr)), LamX.TabB base mg p.1 p.2) → Callee l.prog w K mg base 5 "_law_cast" (spF K m_law_cast) := fun base tbs => ⟨f_law_cast, _, _, ok_law_cast (k := 4) F_law_cast ((C_law_cut base tbs).mono (by decide)) (PySem.W.mg_none_of X G z_tuple) (PySem.W.mg_none_of X G z_range), PySem.W.mg_of X G a_law_cast, k_law_cast, b_law_cast⟩
  have b_law_alike := F_law_alike.binds (ps := ["found", "due"]) fun _ _ _ _ _ _ us hl => match us, hl with | [_, _], _ => rfl
  have C_law_alike : ∀ base : Heap, (∀ p ∈ ([(cc_law, pp_law)] : List (Addr × Addr)), LamX.TabB base mg p.1 p.2) → Callee l.prog w K mg base 10 "_law_alike" (spF K (m_law_alike 9)) := fun base tbs => ⟨f_law_alike, _, _, ok_law_alike (k := 1) F_law_alike (PySem.W.mg_of X G a_law_alike) b_law_alike (PySem.W.mg_none_of X G z_isinstance) (PySem.W.mg_none_of X G z_bool) (PySem.W.mg_none_of X G z_int) (PySem.W.mg_none_of X G z_str) (PySem.W.mg_none_of X G z_tuple) (PySem.W.mg_none_of X G z_list) (PySem.W.mg_none_of X G z_range) (PySem.W.mg_none_of X G z_len) 9, PySem.W.mg_of X G a_law_alike, k_law_alike, b_law_alike⟩
  have b_law_scene := F_law_scene.binds (ps := ["row", "actors", "at", "size", "loops"]) fun _ _ _ _ _ _ us hl => match us, hl with | [_, _, _, _, _], _ => rfl
  have C_law_scene : ∀ base : Heap, (∀ p ∈ ([(cc_law, pp_law)] : List (Addr × Addr)), LamX.TabB base mg p.1 p.2) → Callee l.prog w K mg base 2 "_law_scene" (spR K m_law_scene) := fun base tbs => ⟨f_law_scene, _, _, ok_law_scene (k := 1) F_law_scene ((C_law_taken base tbs).mono (by decide)) (PySem.W.mg_none_of X G z_tuple) (PySem.W.mg_none_of X G z_sorted) (PySem.W.mg_none_of X G z_list) (PySem.W.mg_none_of X G z_range) (PySem.W.mg_none_of X G z_int), PySem.W.mg_of X G a_law_scene, k_law_scene, b_law_scene⟩
  have b_law_script := F_law_script.binds (ps := ["row", "actors", "most", "loops"]) fun _ _ _ _ _ _ us hl => match us, hl with | [_, _, _, _], _ => rfl
  have C_law_script : ∀ base : Heap, (∀ p ∈ ([(cc_law, pp_law)] : List (Addr × Addr)), LamX.TabB base mg p.1 p.2) → Callee l.prog w K mg base 3 "_law_script" (spR K m_law_script) := fun base tbs => ⟨f_law_script, _, _, ok_law_script (k := 2) F_law_script ((C_law_scene base tbs).mono (by decide)) ((C_law_taken base tbs).mono (by decide)) (PySem.W.mg_none_of X G z_tuple) (PySem.W.mg_none_of X G z_range), PySem.W.mg_of X G a_law_script, k_law_script, b_law_script⟩
  have b_has_items := F_has_items.binds (ps := ["value", "least", "most"]) fun _ _ _ _ _ _ us hl => match us, hl with | [_, _, _], _ => rfl
  have C_has_items : ∀ base : Heap, (∀ p ∈ ([(cc_law, pp_law)] : List (Addr × Addr)), LamX.TabB base mg p.1 p.2) → Callee l.prog w K mg base 1 "has_items" (spF K m_has_items) := fun base tbs => ⟨f_has_items, _, _, ok_has_items (k := 0) F_has_items (PySem.W.mg_none_of X G z_len) (PySem.W.mg_none_of X G z_isinstance) (PySem.W.mg_none_of X G z_tuple), PySem.W.mg_of X G a_has_items, k_has_items, b_has_items⟩
  have b_is_rising := F_is_rising.binds (ps := ["values"]) fun _ _ _ _ _ _ us hl => match us, hl with | [_], _ => rfl
  have C_is_rising : ∀ base : Heap, (∀ p ∈ ([(cc_law, pp_law)] : List (Addr × Addr)), LamX.TabB base mg p.1 p.2) → Callee l.prog w K mg base 1 "is_rising" (spF K m_is_rising) := fun base tbs => ⟨f_is_rising, _, _, ok_is_rising (k := 0) F_is_rising (PySem.W.mg_none_of X G z_all) (PySem.W.mg_none_of X G z_range) (PySem.W.mg_none_of X G z_len), PySem.W.mg_of X G a_is_rising, k_is_rising, b_is_rising⟩
  have b_is_number := F_is_number.binds (ps := ["value", "least", "most"]) fun _ _ _ _ _ _ us hl => match us, hl with | [_, _, _], _ => rfl
  have C_is_number : ∀ base : Heap, (∀ p ∈ ([(cc_law, pp_law)] : List (Addr × Addr)), LamX.TabB base mg p.1 p.2) → Callee l.prog w K mg base 1 "is_number" (spF K m_is_number) := fun base tbs => ⟨f_is_number, _, _, ok_is_number (k := 0) F_is_number (PySem.W.mg_none_of X G z_isinstance) (PySem.W.mg_none_of X G z_bool) (PySem.W.mg_none_of X G z_int), PySem.W.mg_of X G a_is_number, k_is_number, b_is_number⟩
  have b_is_event := F_is_event.binds (ps := ["value"]) fun _ _ _ _ _ _ us hl => match us, hl with | [_], _ => rfl
  have C_is_event : ∀ base : Heap, (∀ p ∈ ([(cc_law, pp_law)] : List (Addr × Addr)), LamX.TabB base mg p.1 p.2) → Callee l.prog w K mg base 2 "is_event" (spF K m_is_event) := fun base tbs => ⟨f_is_event, _, _, ok_is_event (k := 1) F_is_event ((C_is_number base tbs).mono (by decide)) ((C_has_items base tbs).mono (by decide)) l_KINDS e_KINDS n_KINDS v_KINDS (PySem.W.mg_of X G q_KINDS) (PySem.W.mg_of X G q_LAST_WORD) (PySem.W.mg_of X G q_LAST_ACTOR), PySem.W.mg_of X G a_is_event, k_is_event, b_is_event⟩
  have b_is_step := F_is_step.binds (ps := ["value", "many"]) fun _ _ _ _ _ _ us hl => match us, hl with | [_, _], _ => rfl
  have C_is_step : ∀ base : Heap, (∀ p ∈ ([(cc_law, pp_law)] : List (Addr × Addr)), LamX.TabB base mg p.1 p.2) → Callee l.prog w K mg base 3 "is_step" (spF K m_is_step) := fun base tbs => ⟨f_is_step, _, _, ok_is_step (k := 2) F_is_step ((C_is_number base tbs).mono (by decide)) ((C_is_event base tbs).mono (by decide)) ((C_has_items base tbs).mono (by decide)), PySem.W.mg_of X G a_is_step, k_is_step, b_is_step⟩
  have b_is_state := F_is_state.binds (ps := ["value", "many"]) fun _ _ _ _ _ _ us hl => match us, hl with | [_, _], _ => rfl
  have C_is_state : ∀ base : Heap, (∀ p ∈ ([(cc_law, pp_law)] : List (Addr × Addr)), LamX.TabB base mg p.1 p.2) → Callee l.prog w K mg base 4 "is_state" (spF K m_is_state) := fun base tbs => ⟨f_is_state, _, _, ok_is_state (k := 3) F_is_state ((C_is_rising base tbs).mono (by decide)) ((C_is_step base tbs).mono (by decide)) ((C_has_items base tbs).mono (by decide)) (PySem.W.mg_none_of X G z_all) (PySem.W.mg_none_of X G z_isinstance) (PySem.W.mg_none_of X G z_tuple) (PySem.W.mg_none_of X G z_bool), PySem.W.mg_of X G a_is_state, k_is_state, b_is_state⟩
  have b_is_part := F_is_part.binds (ps := ["value"]) fun _ _ _ _ _ _ us hl => match us, hl with | [_], _ => rfl
  have C_is_part : ∀ base : Heap, (∀ p ∈ ([(cc_law, pp_law)] : List (Addr × Addr)), LamX.TabB base mg p.1 p.2) → Callee l.prog w K mg base 5 "is_part" (spF K m_is_part) := fun base tbs => ⟨f_is_part, _, _, ok_is_part (k := 4) F_is_part ((C_is_state base tbs).mono (by decide)) ((C_has_items base tbs).mono (by decide)) (PySem.W.mg_none_of X G z_all) (PySem.W.mg_none_of X G z_len) (PySem.W.mg_of X G q_MOST_STATES), PySem.W.mg_of X G a_is_part, k_is_part, b_is_part⟩
  have b_is_other := F_is_other.binds (ps := ["value", "actor", "actors"]) fun _ _ _ _ _ _ us hl => match us, hl with | [_, _, _], _ => rfl
  have C_is_other : ∀ base : Heap, (∀ p ∈ ([(cc_law, pp_law)] : List (Addr × Addr)), LamX.TabB base mg p.1 p.2) → Callee l.prog w K mg base 2 "is_other" (spF K m_is_other) := fun base tbs => ⟨f_is_other, _, _, ok_is_other (k := 1) F_is_other ((C_is_number base tbs).mono (by decide)), PySem.W.mg_of X G a_is_other, k_is_other, b_is_other⟩
  have b_is_part_of := F_is_part_of.binds (ps := ["value", "actor", "actors"]) fun _ _ _ _ _ _ us hl => match us, hl with | [_, _, _], _ => rfl
  have C_is_part_of : ∀ base : Heap, (∀ p ∈ ([(cc_law, pp_law)] : List (Addr × Addr)), LamX.TabB base mg p.1 p.2) → Callee l.prog w K mg base 6 "is_part_of" (spF K m_is_part_of) := fun base tbs => ⟨f_is_part_of, _, _, ok_is_part_of (k := 5) F_is_part_of ((C_is_other base tbs).mono (by decide)) ((C_is_part base tbs).mono (by decide)) (PySem.W.mg_none_of X G z_all), PySem.W.mg_of X G a_is_part_of, k_is_part_of, b_is_part_of⟩
  have b_check_cast := F_check_cast.binds (ps := ["cast"]) fun _ _ _ _ _ _ us hl => match us, hl with | [_], _ => rfl
  have C_check_cast : ∀ base : Heap, (∀ p ∈ ([(cc_law, pp_law)] : List (Addr × Addr)), LamX.TabB base mg p.1 p.2) → Callee l.prog w K mg base 7 "check_cast" (spF K m_check_cast) := fun base tbs => ⟨f_check_cast, _, _, ok_check_cast (k := 6) F_check_cast ((C_is_part_of base tbs).mono (by decide)) ((C_has_items base tbs).mono (by decide)) (PySem.W.mg_none_of X G z_enumerate) (PySem.W.mg_none_of X G z_len) (PySem.W.mg_of X G q_MOST_ACTORS) (PySem.W.mg_of X G q_LEAST_ACTORS), PySem.W.mg_of X G a_check_cast, k_check_cast, b_check_cast⟩
  have b_check_actor := F_check_actor.binds (ps := ["value", "actors"]) fun _ _ _ _ _ _ us hl => match us, hl with | [_, _], _ => rfl
  have C_check_actor : ∀ base : Heap, (∀ p ∈ ([(cc_law, pp_law)] : List (Addr × Addr)), LamX.TabB base mg p.1 p.2) → Callee l.prog w K mg base 2 "check_actor" (spF K m_check_actor) := fun base tbs => ⟨f_check_actor, _, _, ok_check_actor (k := 1) F_check_actor ((C_is_number base tbs).mono (by decide)), PySem.W.mg_of X G a_check_actor, k_check_actor, b_check_actor⟩
  have b_check_part := F_check_part.binds (ps := ["part"]) fun _ _ _ _ _ _ us hl => match us, hl with | [_], _ => rfl
  have C_check_part : ∀ base : Heap, (∀ p ∈ ([(cc_law, pp_law)] : List (Addr × Addr)), LamX.TabB base mg p.1 p.2) → Callee l.prog w K mg base 5 "check_part" (spF K m_check_part) := fun base tbs => ⟨f_check_part, _, _, ok_check_part (k := 4) F_check_part ((C_is_state base tbs).mono (by decide)) ((C_has_items base tbs).mono (by decide)) (PySem.W.mg_none_of X G z_enumerate) (PySem.W.mg_none_of X G z_len) (PySem.W.mg_of X G q_MOST_STATES), PySem.W.mg_of X G a_check_part, k_check_part, b_check_part⟩
  have b_replaced := F_replaced.binds (ps := ["values", "at", "value"]) fun _ _ _ _ _ _ us hl => match us, hl with | [_, _, _], _ => rfl
  have C_replaced : ∀ base : Heap, (∀ p ∈ ([(cc_law, pp_law)] : List (Addr × Addr)), LamX.TabB base mg p.1 p.2) → Callee l.prog w K mg base 1 "replaced" (spF K m_replaced) := fun base tbs => ⟨f_replaced, _, _, ok_replaced (k := 0) F_replaced, PySem.W.mg_of X G a_replaced, k_replaced, b_replaced⟩
  have b_with_part := F_with_part.binds (ps := ["cast", "actor", "part"]) fun _ _ _ _ _ _ us hl => match us, hl with | [_, _, _], _ => rfl
  have C_with_part : ∀ base : Heap, (∀ p ∈ ([(cc_law, pp_law)] : List (Addr × Addr)), LamX.TabB base mg p.1 p.2) → Callee l.prog w K mg base 8 "with_part" (spF K m_with_part) := fun base tbs => ⟨f_with_part, _, _, ok_with_part (k := 7) F_with_part ((C_replaced base tbs).mono (by decide)) ((C_check_part base tbs).mono (by decide)) ((C_check_actor base tbs).mono (by decide)) ((C_check_cast base tbs).mono (by decide)) (PySem.W.mg_none_of X G z_len), PySem.W.mg_of X G a_with_part, k_with_part, b_with_part⟩
  have b_law_told := F_law_told.binds (ps := ["work"]) fun _ _ _ _ _ _ us hl => match us, hl with | [_], _ => rfl
  have T_law_told : Teller K mg "_law_told" (TTA K C_TalkError C_NotMade (Str.ofString "other")) := teller_A F_law_told (PySem.W.mg_of X G a_law_told) b_law_told sc_law_told rfl (Or.inl rfl) rfl rfl rfl rfl (PySem.W.mg_of X G aE_TalkError) rfl (PySem.W.mg_of X G aE_NotMade) rfl (PySem.W.mg_none_of X G z_isinstance) ⟨by decide, by decide⟩ ⟨by decide, by decide⟩ (by decide) (by decide) (fun _ => rfl)
  have hL_law_told : ∀ p ∈ LE, ErrA K C_TalkError C_NotMade p.1 p.2 := by unfold LE; exact (List.forall_mem_cons.mpr ⟨errA_mk aE_NotMade lE_NotMade gE_NotMade ggE_NotMade sE_NotMade cE_NotMade spE tkE mE_NotMade sE_TalkError hE_TalkError tE_TalkError uE_NotMade ktE_NotMade, (fun _ h => nomatch h)⟩)
  have b_check_number := F_check_number.binds (ps := ["value", "least", "most"]) fun _ _ _ _ _ _ us hl => match us, hl with | [_, _, _], _ => rfl
  have C_check_number : ∀ base : Heap, (∀ p ∈ ([(cc_law, pp_law)] : List (Addr × Addr)), LamX.TabB base mg p.1 p.2) → Callee l.prog w K mg base 2 "check_number" (spF K m_check_number) := fun base tbs => ⟨f_check_number, _, _, ok_check_number (k := 1) F_check_number ((C_is_number base tbs).mono (by decide)), PySem.W.mg_of X G a_check_number, k_check_number, b_check_number⟩
  have b_check_state_of := F_check_state_of.binds (ps := ["part", "state"]) fun _ _ _ _ _ _ us hl => match us, hl with | [_, _], _ => rfl
  have C_check_state_of : ∀ base : Heap, (∀ p ∈ ([(cc_law, pp_law)] : List (Addr × Addr)), LamX.TabB base mg p.1 p.2) → Callee l.prog w K mg base 6 "check_state_of" (spF K m_check_state_of) := fun base tbs => ⟨f_check_state_of, _, _, ok_check_state_of (k := 5) F_check_state_of ((C_check_number base tbs).mono (by decide)) ((C_check_part base tbs).mono (by decide)) (PySem.W.mg_none_of X G z_len), PySem.W.mg_of X G a_check_state_of, k_check_state_of, b_check_state_of⟩
  have b_check_event := F_check_event.binds (ps := ["event"]) fun _ _ _ _ _ _ us hl => match us, hl with | [_], _ => rfl
  have C_check_event : ∀ base : Heap, (∀ p ∈ ([(cc_law, pp_law)] : List (Addr × Addr)), LamX.TabB base mg p.1 p.2) → Callee l.prog w K mg base 3 "check_event" (spF K m_check_event) := fun base tbs => ⟨f_check_event, _, _, ok_check_event (k := 2) F_check_event ((C_is_event base tbs).mono (by decide)), PySem.W.mg_of X G a_check_event, k_check_event, b_check_event⟩
  have b_behind_events := F_behind_events.binds (ps := ["state"]) fun _ _ _ _ _ _ us hl => match us, hl with | [_], _ => rfl
  have C_behind_events : ∀ base : Heap, (∀ p ∈ ([(cc_law, pp_law)] : List (Addr × Addr)), LamX.TabB base mg p.1 p.2) → Callee l.prog w K mg base 1 "behind_events" (spF K m_behind_events) := fun base tbs => ⟨f_behind_events, _, _, ok_behind_events (k := 0) F_behind_events, PySem.W.mg_of X G a_behind_events, k_behind_events, b_behind_events⟩
  have b_without_event := F_without_event.binds (ps := ["part", "state", "event"]) fun _ _ _ _ _ _ us hl => match us, hl with | [_, _, _], _ => rfl
  have C_without_event : ∀ base : Heap, (∀ p ∈ ([(cc_law, pp_law)] : List (Addr × Addr)), LamX.TabB base mg p.1 p.2) → Callee l.prog w K mg base 7 "without_event" (spF K m_without_event) := fun base tbs => ⟨f_without_event, _, _, ok_without_event (k := 6) F_without_event ((C_replaced base tbs).mono (by decide)) ((C_behind_events base tbs).mono (by decide)) ((C_check_event base tbs).mono (by decide)) ((C_check_state_of base tbs).mono (by decide)) (PySem.W.mg_none_of X G z_tuple), PySem.W.mg_of X G a_without_event, k_without_event, b_without_event⟩
  have CX_without_event : ∀ base : Heap, (∀ p ∈ ([(cc_law, pp_law)] : List (Addr × Addr)), LamX.TabB base mg p.1 p.2) → CalleeX l.prog w K mg base 7 "without_event" (spX K mx_without_event) := fun base tbs => ⟨f_without_event, _, _, okx_without_event (k := 6) F_without_event ((C_behind_events base tbs).mono (by decide)) ((C_check_event base tbs).mono (by decide)) ((C_check_state_of base tbs).mono (by decide)) (errK_mk aE_NotMade (PySem.W.mg_of X G aE_NotMade) xE_NotMade kE_NotMade sE_NotMade tE_NotMade), PySem.W.mg_of X G a_without_event, k_without_event, b_without_event⟩
  have b_resting := F_resting.binds (ps := ["part", "state", "rest"]) fun _ _ _ _ _ _ us hl => match us, hl with | [_, _, _], _ => rfl
  have C_resting : ∀ base : Heap, (∀ p ∈ ([(cc_law, pp_law)] : List (Addr × Addr)), LamX.TabB base mg p.1 p.2) → Callee l.prog w K mg base 7 "resting" (spF K m_resting) := fun base tbs => ⟨f_resting, _, _, ok_resting (k := 6) F_resting ((C_replaced base tbs).mono (by decide)) ((C_check_state_of base tbs).mono (by decide)) (PySem.W.mg_none_of X G z_isinstance) (PySem.W.mg_none_of X G z_bool), PySem.W.mg_of X G a_resting, k_resting, b_resting⟩
  have b_plus_event := F_plus_event.binds (ps := ["part", "state", "event", "there"]) fun _ _ _ _ _ _ us hl => match us, hl with | [_, _, _, _], _ => rfl
  have C_plus_event : ∀ base : Heap, (∀ p ∈ ([(cc_law, pp_law)] : List (Addr × Addr)), LamX.TabB base mg p.1 p.2) → Callee l.prog w K mg base 7 "plus_event" (spF K m_plus_event) := fun base tbs => ⟨f_plus_event, _, _, ok_plus_event (k := 6) F_plus_event ((C_replaced base tbs).mono (by decide)) ((C_behind_events base tbs).mono (by decide)) ((C_check_number base tbs).mono (by decide)) ((C_check_event base tbs).mono (by decide)) ((C_check_state_of base tbs).mono (by decide)) (PySem.W.mg_none_of X G z_tuple) (PySem.W.mg_none_of X G z_sorted) (PySem.W.mg_none_of X G z_len), PySem.W.mg_of X G a_plus_event, k_plus_event, b_plus_event⟩
  have CX_plus_event : ∀ base : Heap, (∀ p ∈ ([(cc_law, pp_law)] : List (Addr × Addr)), LamX.TabB base mg p.1 p.2) → CalleeX l.prog w K mg base 7 "plus_event" (spX K mx_plus_event) := fun base tbs => ⟨f_plus_event, _, _, okx_plus_event (k := 6) F_plus_event ((C_behind_events base tbs).mono (by decide)) ((C_check_number base tbs).mono (by decide)) ((C_check_event base tbs).mono (by decide)) ((C_check_state_of base tbs).mono (by decide)) (PySem.W.mg_none_of X G z_len) (errK_mk aE_NotMade (PySem.W.mg_of X G aE_NotMade) xE_NotMade kE_NotMade sE_NotMade tE_NotMade), PySem.W.mg_of X G a_plus_event, k_plus_event, b_plus_event⟩
  exact ⟨_, fun s v => .of_eq rfl, fun base _ _ tbs => ok_law (k := 8) F_law ((C_law_alike base tbs).mono (by decide)) ((C_with_part base tbs).mono (by decide)) ((C_law_taken base tbs).mono (by decide)) ((C_law_cast base tbs).mono (by decide)) ((C_law_script base tbs).mono (by decide)) ((C_without_event base tbs).mono (by decide)) ((C_plus_event base tbs).mono (by decide)) ((C_resting base tbs).mono (by decide)) ((C_law_pick base tbs).mono (by decide)) ((C_law_part base tbs).mono (by decide)) ((C_plus_event base tbs).mono (by decide)) ((C_without_event base tbs).mono (by decide)) ((CX_plus_event base tbs).mono (by decide)) ((CX_without_event base tbs).mono (by decide)) T_law_told hL_law_told a_law ti_law (tbs (cc_law, pp_law) (by simp only [List.mem_cons, true_or, or_true])) (PySem.W.mg_none_of X G z_len) (PySem.W.mg_none_of X G z_isinstance) (PySem.W.mg_none_of X G z_tuple) (PySem.W.mg_none_of X G z_sorted)⟩
end
end Lw
open PySem PySem.W PyProof.Rows
set_option maxHeartbeats 0 in
theorem PySem.Challenge.cw_roletalks_k21_whole_part_changes_holds : PySem.Challenge.rw_roletalks_k21_whole_part_changes.Holds := by
  w_on; o_law; k_head; (case hw => w_witness2)
  k_fill
  refine LamX.walk_ofTs (l := PySem.Challenge.rw_roletalks_k21_whole_part_changes) (n := 63) (k := 11) (x := "script") (CX := fun _ => L2.CX0) rfl (by decide) rfl ⟨rfl, by decide, by decide⟩ (fun w h Y => PySem.W.km_in_of Y) ?F (fun _ _ _ _ _ h => h)
  case F =>
    intro w mg fa h Y KX G hmg
    have hT8 := PySem.W.km_tabs_of Y
    have ti_law : PySem.W.tabIn (L2.KOf KX) "law" = some (_, _) := rfl
    refine' Exists.elim (Lw.all_mk KX G hmg ?a_law_taken ?l_law_taken ?c_law_taken ?k_law_taken ?a_law_pick ?l_law_pick ?c_law_pick ?k_law_pick ?a_law_state ?l_law_state ?c_law_state ?k_law_state ?a_law_part ?l_law_part ?c_law_part ?k_law_part ?a_law_branches ?l_law_branches ?c_law_branches ?k_law_branches ?a_law_event ?l_law_event ?c_law_event ?k_law_event ?a_law_joined ?l_law_joined ?c_law_joined ?k_law_joined ?a_law_steps ?l_law_steps ?c_law_steps ?k_law_steps ?a_law_cut ?l_law_cut ?c_law_cut ?k_law_cut ?a_law_cast ?l_law_cast ?c_law_cast ?k_law_cast ?a_law_alike ?l_law_alike ?c_law_alike ?k_law_alike ?a_law_scene ?l_law_scene ?c_law_scene ?k_law_scene ?a_law_script ?l_law_script ?c_law_script ?k_law_script ?a_has_items ?l_has_items ?c_has_items ?k_has_items ?a_is_rising ?l_is_rising ?c_is_rising ?k_is_rising ?a_is_number ?l_is_number ?c_is_number ?k_is_number ?a_is_event ?l_is_event ?c_is_event ?k_is_event ?a_is_step ?l_is_step ?c_is_step ?k_is_step ?a_is_state ?l_is_state ?c_is_state ?k_is_state ?a_is_part ?l_is_part ?c_is_part ?k_is_part ?a_is_other ?l_is_other ?c_is_other ?k_is_other ?a_is_part_of ?l_is_part_of ?c_is_part_of ?k_is_part_of ?a_check_cast ?l_check_cast ?c_check_cast ?k_check_cast ?a_check_actor ?l_check_actor ?c_check_actor ?k_check_actor ?a_check_part ?l_check_part ?c_check_part ?k_check_part ?a_replaced ?l_replaced ?c_replaced ?k_replaced ?a_with_part ?l_with_part ?c_with_part ?k_with_part ?a_law_told ?l_law_told ?c_law_told ?k_law_told ?a_check_number ?l_check_number ?c_check_number ?k_check_number ?a_check_state_of ?l_check_state_of ?c_check_state_of ?k_check_state_of ?a_check_event ?l_check_event ?c_check_event ?k_check_event ?a_behind_events ?l_behind_events ?c_behind_events ?k_behind_events ?a_without_event ?l_without_event ?c_without_event ?k_without_event ?a_resting ?l_resting ?c_resting ?k_resting ?a_plus_event ?l_plus_event ?c_plus_event ?k_plus_event ?a_law ?l_law ?c_law ?k_law ?z_all ?z_bool ?z_dict ?z_enumerate ?z_int ?z_isinstance ?z_len ?z_list ?z_range ?z_sorted ?z_str ?z_tuple ?q_LAST_ACTOR ?q_LAST_WORD ?q_LEAST_ACTORS ?q_MOST_ACTORS ?q_MOST_STATES ?q_KINDS ?l_KINDS ?e_KINDS ?n_KINDS ?v_KINDS ?aE_NotMade ?sE_NotMade ?tE_NotMade ?xE_NotMade ?kE_NotMade ?lE_NotMade ?gE_NotMade ?ggE_NotMade ?cE_NotMade ?mE_NotMade ?aE_TalkError ?sE_TalkError ?tE_TalkError ?hE_TalkError ?uE_NotMade ?ktE_NotMade ?spE ?tkE ti_law) (fun fd hall => ?mgoal)
    (case a_law_taken => k_is); (case l_law_taken => k_is); (case c_law_taken => k_is); (case k_law_taken => k_is); (case a_law_pick => k_is); (case l_law_pick => k_is); (case c_law_pick => k_is); (case k_law_pick => k_is); (case a_law_state => k_is); (case l_law_state => k_is); (case c_law_state => k_is); (case k_law_state => k_is); (case a_law_part => k_is); (case l_law_part => k_is); (case c_law_part => k_is); (case k_law_part => k_is); (case a_law_branches => k_is); (case l_law_branches => k_is); (case c_law_branches => k_is); (case k_law_branches => k_is); (case a_law_event => k_is); (case l_law_event => k_is); (case c_law_event => k_is); (case k_law_event => k_is); (case a_law_joined => k_is); (case l_law_joined => k_is); (case c_law_joined => k_is); (case k_law_joined => k_is); (case a_law_steps => k_is); (case l_law_steps => k_is); (case c_law_steps => k_is); (case k_law_steps => k_is); (case a_law_cut => k_is); (case l_law_cut => k_is); (case c_law_cut => k_is); (case k_law_cut => k_is); (case a_law_cast => k_is); (case l_law_cast => k_is); (case c_law_cast => k_is); (case k_law_cast => k_is); (case a_law_alike => k_is); (case l_law_alike => k_is); (case c_law_alike => k_is); (case k_law_alike => k_is); (case a_law_scene => k_is); (case l_law_scene => k_is); (case c_law_scene => k_is); (case k_law_scene => k_is); (case a_law_script => k_is); (case l_law_script => k_is); (case c_law_script => k_is); (case k_law_script => k_is); (case a_has_items => k_is); (case l_has_items => k_is); (case c_has_items => k_is); (case k_has_items => k_is); (case a_is_rising => k_is); (case l_is_rising => k_is); (case c_is_rising => k_is); (case k_is_rising => k_is); (case a_is_number => k_is); (case l_is_number => k_is); (case c_is_number => k_is); (case k_is_number => k_is); (case a_is_event => k_is); (case l_is_event => k_is); (case c_is_event => k_is); (case k_is_event => k_is); (case a_is_step => k_is); (case l_is_step => k_is); (case c_is_step => k_is); (case k_is_step => k_is); (case a_is_state => k_is); (case l_is_state => k_is); (case c_is_state => k_is); (case k_is_state => k_is); (case a_is_part => k_is); (case l_is_part => k_is); (case c_is_part => k_is); (case k_is_part => k_is); (case a_is_other => k_is); (case l_is_other => k_is); (case c_is_other => k_is); (case k_is_other => k_is); (case a_is_part_of => k_is); (case l_is_part_of => k_is); (case c_is_part_of => k_is); (case k_is_part_of => k_is); (case a_check_cast => k_is); (case l_check_cast => k_is); (case c_check_cast => k_is); (case k_check_cast => k_is); (case a_check_actor => k_is); (case l_check_actor => k_is); (case c_check_actor => k_is); (case k_check_actor => k_is); (case a_check_part => k_is); (case l_check_part => k_is); (case c_check_part => k_is); (case k_check_part => k_is); (case a_replaced => k_is); (case l_replaced => k_is); (case c_replaced => k_is); (case k_replaced => k_is); (case a_with_part => k_is); (case l_with_part => k_is); (case c_with_part => k_is); (case k_with_part => k_is); (case a_law_told => k_is); (case l_law_told => k_is); (case c_law_told => k_is); (case k_law_told => k_is); (case a_check_number => k_is); (case l_check_number => k_is); (case c_check_number => k_is); (case k_check_number => k_is); (case a_check_state_of => k_is); (case l_check_state_of => k_is); (case c_check_state_of => k_is); (case k_check_state_of => k_is); (case a_check_event => k_is); (case l_check_event => k_is); (case c_check_event => k_is); (case k_check_event => k_is); (case a_behind_events => k_is); (case l_behind_events => k_is); (case c_behind_events => k_is); (case k_behind_events => k_is); (case a_without_event => k_is); (case l_without_event => k_is); (case c_without_event => k_is); (case k_without_event => k_is); (case a_resting => k_is); (case l_resting => k_is); (case c_resting => k_is); (case k_resting => k_is); (case a_plus_event => k_is); (case l_plus_event => k_is); (case c_plus_event => k_is); (case k_plus_event => k_is); (case a_law => k_is); (case l_law => k_is); (case c_law => k_is); (case k_law => k_is); (case z_all => k_is); (case z_bool => k_is); (case z_dict => k_is); (case z_enumerate => k_is); (case z_int => k_is); (case z_isinstance => k_is); (case z_len => k_is); (case z_list => k_is); (case z_range => k_is); (case z_sorted => k_is); (case z_str => k_is); (case z_tuple => k_is); (case q_LAST_ACTOR => k_is); (case q_LAST_WORD => k_is); (case q_LEAST_ACTORS => k_is); (case q_MOST_ACTORS => k_is); (case q_MOST_STATES => k_is); (case q_KINDS => k_is); (case l_KINDS => k_is); (case e_KINDS => rfl); (case n_KINDS => decide +kernel); (case v_KINDS => exact (.cons ⟨_, rfl⟩ (.cons ⟨_, rfl⟩ .nil))); (case aE_NotMade => k_is); (case sE_NotMade => k_is); (case tE_NotMade => k_is); (case xE_NotMade => first | k_exc | kx_is | decide +kernel); (case kE_NotMade => k_is); (case lE_NotMade => k_is); (case gE_NotMade => k_is); (case ggE_NotMade => k_is); (case cE_NotMade => k_is); (case mE_NotMade => k_is); (case aE_TalkError => k_is); (case sE_TalkError => k_is); (case tE_TalkError => k_is); (case hE_TalkError => k_is); (case uE_NotMade => k_is); (case ktE_NotMade => first | kit_is | k_is | rfl | decide +kernel); (case spE => k_is); (case tkE => k_is)
    case mgoal =>
      obtain ⟨hb, hF⟩ := hall
      refine ⟨fd, _, RT.spLaw _ Lw.b_law 13 10121, ?hT, ?nT, ?hC, hb, fun H a ns hl _ hH hS => ?_, hF⟩
      case hT => exact (List.forall_mem_cons.mpr ⟨hT8 _ (by k_mem), (fun _ h => nomatch h)⟩)
      case nT => exact (List.forall_mem_cons.mpr ⟨by rfl, (fun _ h => nomatch h)⟩)
      case hC => exact (List.forall_mem_cons.mpr ⟨PySem.W.codeHd_of_K KX (by kernel_rfl), (fun _ h => nomatch h)⟩)
      · obtain ⟨x', e⟩ := Lw.main ns hl
        exact ⟨_, a, ns, x', RT.tok_of (L := [("law", 0, _)]) (by rfl) (by decide), (List.forall_mem_cons.mpr ⟨LamX.TabS.nil (hH (_, _) List.mem_cons_self), (fun _ h => nomatch h)⟩), rfl, hS, e, fun _ => rfl⟩
