import Derived.Test.YtaoncjgllcndmaaDoorD2g
import Derived.Test.YtaoncjgllcndmaaDoorD9
import Derived.Lib.SliceRun
namespace Go.Proofs.YtaoncjgllcndmaaDoor.Frm
open Go.RowKit Gf8 Aes By8 Cel
/- New, bytes.Clone. -/

theorem buildF : ∀ w, (Instr.build 74 #[(4, smV 1 0)]).run Tryd.prog w = .ok (.agg (fC newS)) w := by
  intro w
  kernel_rfl
theorem execBuildF {o : Oper} {a : Act} {w : World} {x : Operand} (ho : o.op = .build 74 #[(4, x)]) (hx : a.eval x = smV 1 0) : (execOp a.eval o).run Tryd.prog w = .ok (.value (.agg (fC newS))) w := by
  have h := buildF w
  unfold execOp
  simp only [ho, List.map_toArray, List.map_cons, List.map_nil, hx]
  simp [h]
theorem execBoxF {o : Oper} {a : Act} {w : World} {x : Operand} {s : FSt} (ho : o.op = .box 74 x) (hx : a.eval x = .agg (fC s)) : (execOp a.eval o).run Tryd.prog w = .ok (.value (.pointer (some ⟨w.heap.size, 0, none⟩))) (w.alloc (.cells (fC s) 74)) := by
  unfold execOp
  simp only [ho, hx]
  simp [go_sem]
set_option maxRecDepth 20000 in
theorem new_any (V : World) : Calls Tryd.prog 19 #[] V fun e w' => ∃ F, e = .returned (.pointer (some ⟨F, 0, none⟩)) ∧ V.heap.size ≤ F ∧ FAt F newS w' ∧ Below V.heap.size V w' := by
  go_enter Tryd.func19, Tryd.ntmps19
  go_wp2_with (first
    | (go_at_call 32; refine (nobytes_any _).mono ?_; rintro e w1 ⟨rfl, b1⟩)
    | (refine wpList_ex rfl (execBuildF rfl rfl) ?_)
    | (refine wpList_ex rfl (execBoxF (s := newS) rfl rfl) ?_))
  go_ret
  exact ⟨_, rfl, b1.size, ⟨heapNew _ _⟩, b1.trans ((belNew w1 _).mono b1.size)⟩
set_option maxRecDepth 20000 in
theorem clone_any (p : Nat → Nat) (len : Nat) (ad : Addr) (cap : Nat) (V : World) (hv : SliceN V (.slice (some ad) len cap) len p) (hl : len ≤ 140737488351232) :
    Calls Tryd.prog 35 #[.slice (some ad) len cap] V fun e w' => ∃ r, e = .returned r ∧ w'.ownsRow V.heap.size 5 1 r len (bytesL len p) ∧ Below V.heap.size V w' := by
  have HV : Hid (SliceN V (.slice (some ad) len cap) len p) := hv
  have HL : Hid (len ≤ 140737488351232) := hl
  have en := fun w => Go.Lib.run_eql_slice_nil (P := Tryd.prog) w 30 5 (some ad) len cap 0 0 Tryd.underlying30
  clear hv hl
  go_enter Tryd.func35, Tryd.ntmps35
  go_wp2_with (first
    | (refine atAppB (.tmp 5) (.tmp 6) rfl ?_; go_must (refine wpList_appS (B := V.heap.size) (n := 0) (m := len) (p := p) rfl (.tmp 5) (.tmp 6) rfl rfl rfl (own_none V p) (sliceN_cg (HV.out.on (belNew V _)) fun j _ => by rw [Nat.zero_add]) (fun l c e => by cases e) (by have := HL.out; omega) (belNew V _).size ?_; intro u1 W1 own1 gr1; have b1 : Below V.heap.size V W1 := below_grown (belNew V _) (belNew V _).size (own_none V p) gr1; rw [Nat.zero_add] at own1; clear gr1)))
  go_ret
  exact ⟨_, rfl, own1, b1⟩
/-- k cells, new rows, in a new list. -/
structure CG (B k : Nat) (x : Nat → Value) (cb : Nat → Nat → Nat) (cv : Value) (W : World) : Prop where
  own : W.ownsRow B 30 1 cv k (xsL x 0 k)
  fam : Fam B k x (fun _ => 320) cb W
theorem CG.on {B k : Nat} {x : Nat → Value} {cb : Nat → Nat → Nat} {cv : Value} {W W' : World} (h : CG B k x cb cv W) (hb : Below W.heap.size W W') : CG B k x cb cv W' := ⟨ownL_below h.own hb, h.fam.on hb⟩
theorem CG.row {B k : Nat} {x : Nat → Value} {cb : Nat → Nat → Nat} {cv : Value} {W : World} (h : CG B k x cb cv W) {R : Nat} {c : Array Value} {t : TypeId} (hr : W.heap[R]? = some (.cells c t)) (h1 : t ≠ 30) (h5 : t ≠ 5) (d : Array Value) : CG B k x cb cv (W.setRow R d) :=
  ⟨ownL_row h.own hr h1 d, ⟨fun t ht => ownsRow_row (h.fam.rows t ht) hr h5 d, h.fam.dis⟩⟩
theorem CG.none (B : Nat) (x : Nat → Value) (cb : Nat → Nat → Nat) (W : World) : CG B 0 x cb (.slice none 0 0) W := ⟨World.ownsRow_nil _ _ _ _, Fam.none _ _ _ _ _⟩
theorem CG.one {B k : Nat} {x : Nat → Value} {cb : Nat → Nat → Nat} {cv : Value} {W : World} (h : CG B k x cb cv W) : cv.oneCell' = true := by
  rcases h.own.2 with ⟨rfl, _⟩ | ⟨g, cap, cur, rfl, _⟩ <;> rfl
/-- Only the Feed has changed: rows behind V's end stay if they are not the Feed's. -/
theorem ownsRow_sv {W W' : World} {B n F t : Nat} {v : Value} {xs : List Value} (h : W.ownsRow B t 1 v n xs) (sv : Saved (fun k => k = F) W W') (hF : F < B) : W'.ownsRow B t 1 v n xs := by
  refine ⟨h.1, ?_⟩
  rcases h.2 with h | ⟨g, cap, cur, e, hB, hg, h2⟩
  · exact Or.inl h
  · exact Or.inr ⟨g, cap, cur, e, hB, by rw [sv.block g (Array.getElem?_eq_some_iff.1 hg).1 (by omega)]; exact hg, h2⟩
theorem CG.sv {B k F : Nat} {x : Nat → Value} {cb : Nat → Nat → Nat} {cv : Value} {W W' : World} (h : CG B k x cb cv W) (s : Saved (fun k => k = F) W W') (hF : F < B) : CG B k x cb cv W' :=
  ⟨ownsRow_sv h.own s hF, ⟨fun t ht => ownsRow_sv (h.fam.rows t ht) s hF, h.fam.dis⟩⟩
end Go.Proofs.YtaoncjgllcndmaaDoor.Frm
