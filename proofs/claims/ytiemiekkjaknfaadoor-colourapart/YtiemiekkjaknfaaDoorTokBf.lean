/- strings.EqualFold of two texts that are the same but for letters small or great: the library's own text, walked. -/
import Derived.Test.YtiemiekkjaknfaaDoorTokBd
import Derived.Test.YtiemiekkjaknfaaDoorTokL
import Derived.Test.YtiemiekkjaknfaaDoorShelf
import Derived.Scope
import Derived.ScopeJumps
import Derived.WalkMore
namespace Go.Proofs.YtiemiekkjaknfaaDoor
set_option linter.unusedVariables false
set_option linter.unusedSimpArgs false
open Go.RowKit

theorem wp_scope_forward {P : Program} {Q : Exit → Act → World → Prop} {a : Act} {w : World} {c rest : Code} (l : Nat) (hf : findLabel c l = some rest)
    (first : c.wp P (Exit.jump l (fun a' w' => rest.wp P (Exit.noGoto Q) a' w') Q) a w) : (Code.scope c).wp P Q a w :=
  wp_scope_jumps l (fun a' w' => rest.wp P (Exit.noGoto Q) a' w') (fun _ _ => 0) hf first (fun a w h => wp_mono h (fun e a w h => by
    cases e with
    | goto l' => exact h.elim
    | normal => exact h
    | exit id => exact h
    | ret => exact h
    | panic ch => exact h
    | outgrown => exact h))

def strLen : Value → Nat | .string b => b.size | _ => 0

/-- The two tables that the library's decoder reads. -/
def U8 (w : World) : Prop := Lib.Utf8Tabs 5 6 w
theorem U8.fr {w w' : World} (h : U8 w) (f : Fr w w') : U8 w' := Utf8Tabs_below h f

theorem get_nat (s : ByteArray) (k : Nat) (h : k < s.size) : s.get! k = s[k]'h := by
  cases s with
  | mk d => exact getElem!_pos d k h

set_option maxHeartbeats 4000000 in
set_option maxRecDepth 4000 in
theorem fold_any (s t : ByteArray) (w : World) (hU : U8 w) (hs : s.size ≤ 4096) (hz : s.size = t.size) (he : ∀ k, lowB ((s.get! k).toNat : Int) = lowB ((t.get! k).toNat : Int)) :
    Calls Tryd.prog 36 #[.string s, .string t] w fun e w' => e = .returned (.bool true) ∧ Fr w w' := by
  have HD := hide (fun t w hU => Tryd.utf8_DecodeRuneInString t w hU)
  have HE := hide he
  have HF := hide (fold_dec s t hz he)
  clear he
  obtain ⟨n, hn⟩ : ∃ n, n = s.size := ⟨_, rfl⟩
  have hm : min (s.size : Int) (t.size : Int) = (n : Int) := by omega
  have hn1 : s.size = n := hn.symm
  have hn2 : t.size = n := by omega
  have hn0 : n ≤ 4096 := by omega
  clear hn hz hs
  go_enter Tryd.func36, Tryd.ntmps36
  go_wp2_with fail
  refine wp_scope_forward 0 rfl ?_
  go_wp2_with fail
  go_loopw [5] (fun i wr => ∃ k : Nat, k ≤ n ∧ i = .int .i64 k ∧ wr = w) (fun i _ => n - (intOf i).toNat)
  case atStart => exact ⟨0, by omega, rfl, rfl⟩
  case round =>
    obtain ⟨k, hk, rfl, rfl⟩ := hrel
    by_cases hlt : k < n
    · have ks : k < s.size := by omega
      have kt : k < t.size := by omega
      have hl := HE.out k
      rw [get_nat s k ks, get_nat t k kt] at hl
      have bx := (s[k]'ks).toNat_lt
      have hby := (t[k]'kt).toNat_lt
      obtain ⟨x, hx⟩ : ∃ x : Nat, (s[k]'ks).toNat = x := ⟨_, rfl⟩
      obtain ⟨y, hy⟩ : ∃ y : Nat, (t[k]'kt).toNat = y := ⟨_, rfl⟩
      rw [hx] at hl bx
      rw [hy] at hl hby
      have hor := u8_or_nat x y (by omega) (by omega)
      by_cases hb : x < 128 ∧ y < 128
      · have h7 : x ||| y < 128 := Nat.or_lt_two_pow (n := 7) hb.1 hb.2
        have h8 : ¬ (128 : Int) ≤ ((x ||| y : Nat) : Int) := by omega
        have hcase : x = y ∨ (65 ≤ x ∧ x ≤ 90 ∧ y = x + 32) ∨ (65 ≤ y ∧ y ≤ 90 ∧ x = y + 32) := by
          unfold lowB at hl
          split at hl <;> split at hl <;> omega
        generalize x ||| y = v at *
        clear hl h7
        rcases hcase with h | ⟨h1, h2, h⟩ | ⟨h1, h2, h⟩
        · subst h
          go_wp2_with fail
          go_roundw
          case rel => exact ⟨k + 1, by omega, by go_num, by first | rfl | trivial⟩
          case measure => simp [intOf]; omega
        · subst h
          have hor2 : bits .or .u8 (x : Int) ((x : Int) + 32) = (v : Int) := by have h := hor; rw [Int.natCast_add] at h; exact h
          clear hor
          go_wp2_with fail
          go_roundw
          case rel => exact ⟨k + 1, by omega, by go_num, by first | rfl | trivial⟩
          case measure => simp [intOf]; omega
        · subst h
          have hor2 : bits .or .u8 ((y : Int) + 32) (y : Int) = (v : Int) := by have h := hor; rw [Int.natCast_add] at h; exact h
          clear hor
          go_wp2_with fail
          go_roundw
          case rel => exact ⟨k + 1, by omega, by go_num, by first | rfl | trivial⟩
          case measure => simp [intOf]; omega
      · have hxy : x = y := by
          unfold lowB at hl
          split at hl <;> split at hl <;> omega
        subst hxy
        rw [Nat.or_self] at hor
        have h8 : (128 : Int) ≤ (x : Int) := by omega
        clear hl hb
        go_wp2_with fail
        go_step3
        refine And.intro rfl ?_
        have hzs := ext_size s k
        have hzt := ext_size t k
        rw [hn1] at hzs
        rw [hn2] at hzt
        have hds : ∀ p, Utf8.decode (s.extract k s.size) p = Utf8.decode s (k + p) := dec_from s k
        have het : ∀ z, (t.extract k t.size).extract z (t.extract k t.size).size = t.extract (k + z) t.size := fun z => ext_from t k z (by omega)
        rw [hn1] at hds
        go_wp2_with fail
        obtain ⟨V, rfl⟩ : ∃ V, V = wr := ⟨_, rfl⟩
        obtain ⟨r, hr⟩ : ∃ r, r = n - k := ⟨_, rfl⟩
        rw [← hr] at hzs hzt
        have HDS := hide hds
        have HET := hide het
        have hkn : n = k + r := by omega
        have HKN := hide hkn
        have h0 : t.extract k t.size = t.extract (k + 0) t.size := by rw [Nat.add_zero]
        have H0 := hide h0
        clear hds het hor hx hy h8 hm h0 hr hkn bx hby
        have H1 := hide hn1
        have H2 := hide hn2
        generalize s.extract k n = sp at *
        go_loopw [1] (fun tv wx => ∃ (p : Nat) (tp : ByteArray), p ≤ r ∧ tv = .string tp ∧ tp.size + p = r ∧ Hid (tp = t.extract (k + p) t.size) ∧ Hid (wx.heap[V.heap.size]? = some (.stringIter sp p)) ∧ Hid (Fr V wx)) (fun tv _ => strLen tv)
        case atStart =>
          refine ⟨0, t.extract k n, by omega, rfl, by omega, hide ?_, hide (World.iter_heap _ _ _), hide (Fr.alloc _ _)⟩
          rw [← H2.out]; exact H0.out
        case round =>
          obtain ⟨p, tp, hp, rfl, hpz, HTP, HIT, HFr⟩ := hrel
          by_cases hlt2 : p < r
          · have hds := HDS.out p
            have hst : k + p < s.size := by rw [H1.out, HKN.out]; omega
            have htt : k + p < t.size := by rw [H2.out, HKN.out]; omega
            obtain ⟨e1, e2, e3⟩ := dec_bds s (k + p) hst
            obtain ⟨g1, g2, g3⟩ := dec_bds t (k + p) htt
            have hff := HF.out (k + p)
            have hdt : Lib.decodeGo tp = Utf8.decode t (k + p) := by
              rw [HTP.out]
              have hz := ext_size t (k + p)
              unfold Lib.decodeGo
              rw [if_neg (by omega), dec_from]
              rfl
            have hnx : ∀ ty, (Instr.next (.pointer (some ⟨V.heap.size, 0, none⟩)) true ty).run Tryd.prog wr = _ := fun ty => Lib.run_next_any_at wr V.heap.size sp p ty HIT.out (by omega)
            rw [hds] at hnx
            obtain ⟨R, K, hRK⟩ : ∃ R K, Utf8.decode s (k + p) = (R, K) := ⟨_, _, rfl⟩
            obtain ⟨R', K', hRK'⟩ : ∃ R K, Utf8.decode t (k + p) = (R, K) := ⟨_, _, rfl⟩
            rw [hRK] at hnx e1 e2 e3 hff
            rw [hRK'] at hdt g1 g2 g3 hff
            rw [H1.out, HKN.out] at e2
            rw [H2.out, HKN.out] at g2
            have hit2 := hide (Lib.iterAt_heap wr V.heap.size sp p (p + K) HIT.out)
            have F2 : Hid (Fr V (wr.iterAt V.heap.size sp (p + K))) := hide (Lib.below_iterAt HFr.out (Nat.le_refl _) sp (p + K))
            have hzV : Hid (V.heap.size < (wr.iterAt V.heap.size sp (p + K)).heap.size) := hide (by rw [Lib.iterAt_size]; exact (Array.getElem?_eq_some_iff.1 HIT.out).1)
            have HC := hide (HD.out tp (wr.iterAt V.heap.size sp (p + K)) (hU.fr F2.out))
            rw [hdt] at HC
            simp only at hnx e1 e2 e3 g1 g2 g3
            generalize wr.iterAt V.heap.size sp (p + K) = W at *
            have HNT : Hid (∀ z, tp.extract z tp.size = t.extract (k + (p + z)) t.size) := hide (fun z => by
              rw [HTP.out, ← Nat.add_assoc]
              exact ext_from t (k + p) z (by omega))
            have HNZ : Hid (∀ z, (tp.extract z tp.size).size = tp.size - z) := hide (fun z => ext_size tp z)
            clear hds hst htt hdt hRK hRK' HIT HFr
            have step : ∀ (w2 : World), Fr W w2 → K = K' → ∃ (p' : Nat) (tp' : ByteArray), p' ≤ r ∧ Value.string (tp.extract K' tp.size) = .string tp' ∧ tp'.size + p' = r ∧ Hid (tp' = t.extract (k + p') t.size) ∧ Hid (w2.heap[V.heap.size]? = some (.stringIter sp p')) ∧ Hid (Fr V w2) := by
              intro w2 f2 hK
              subst hK
              refine ⟨p + K, _, by omega, rfl, ?_, hide (HNT.out K), hide ((f2.block _ hzV.out).trans hit2.out), hide (F2.out.trans f2)⟩
              rw [HNZ.out]; omega
            have STEP := hide step
            have meas : strLen (Value.string (tp.extract K' tp.size)) < strLen (Value.string tp) := by
              show (tp.extract K' tp.size).size < tp.size
              rw [HNZ.out]; omega
            have MEAS := hide meas
            clear step meas HNT HNZ
            rcases hff with h | ⟨b, c, h1, h2, hb, hc, hne, hlow⟩
            · obtain ⟨rfl, rfl⟩ := Prod.mk.inj h
              clear h
              go_wp2_with fail
              refine HC.out.mono ?_
              rintro e w2 ⟨rfl, f2⟩
              go_wp2_with fail
              go_roundw
              case rel => first | exact STEP.out w2 f2 rfl | exact STEP.out w2 f2 trivial
              case measure => exact MEAS.out
            · obtain ⟨rfl, rfl⟩ := Prod.mk.inj h1
              obtain ⟨rfl, rfl⟩ := Prod.mk.inj h2
              have hcase : (65 ≤ R ∧ R ≤ 90 ∧ R' = R + 32) ∨ (65 ≤ R' ∧ R' ≤ 90 ∧ R = R' + 32) := by
                unfold lowB at hlow
                split at hlow <;> split at hlow <;> omega
              clear hlow h1 h2 hne
              rcases hcase with ⟨h1, h2, h⟩ | ⟨h1, h2, h⟩
              · subst h
                go_wp2_with fail
                refine HC.out.mono ?_
                rintro e w2 ⟨rfl, f2⟩
                go_wp2_with fail
                go_roundw
                case rel => first | exact STEP.out w2 f2 rfl | exact STEP.out w2 f2 trivial
                case measure => exact MEAS.out
              · subst h
                go_wp2_with fail
                refine HC.out.mono ?_
                rintro e w2 ⟨rfl, f2⟩
                go_wp2_with fail
                go_roundw
                case rel => first | exact STEP.out w2 f2 rfl | exact STEP.out w2 f2 trivial
                case measure => exact MEAS.out
          · have hnx : ∀ ty, (Instr.next (.pointer (some ⟨V.heap.size, 0, none⟩)) true ty).run Tryd.prog wr = _ := fun ty => Lib.run_next_end_at wr V.heap.size sp p ty HIT.out (by omega)
            have htz : tp.size = 0 := by omega
            go_wp2_with fail
            rw [Exit.noGoto_ret]
            go_ret
            exact ⟨rfl, HFr.out⟩
    · go_wp2_with fail
      simp only [Exit.jump]
      go_ret
      exact ⟨rfl, Fr.refl _⟩
end Go.Proofs.YtiemiekkjaknfaaDoor
