/- ChainRing: of a ring the last who writes down is told, under every schedule. Part 19 of 28. (Joined, by program, of: La4P, La4Q.) -/
import Derived.Test.YtmmfjanbjheekaaChainRing18

/- The law ChainTrue (4): its pieces. (Made by wip/tools/mk4h.py.) -/
set_option linter.unusedSimpArgs false
set_option linter.unusedVariables false
namespace Go.Proofs.Ytmmfjanbjheekaa.Gen
open Go Go.Lift Go.Conc Go.RowKit

noncomputable def C4 : Code := Try.f4.body.getD .skip
noncomputable def q4_0 : Code := (seq1 C4)
noncomputable def q4_1 : Code := (seq1 (seq2 C4))
noncomputable def q4_2 : Code := (seq1 (seq2 (seq2 C4)))
noncomputable def q4_3 : Code := (seq1 (seq2 (seq2 (seq2 C4))))
noncomputable def q4_4 : Code := (seq1 (seq1 (seq2 (seq2 (seq2 (seq2 C4))))))
noncomputable def q4_5 : Code := (seq1 (condA (seq2 (seq1 (seq2 (seq2 (seq2 (seq2 C4))))))))
noncomputable def q4_6 : Code := (seq1 (seq1 (seq2 (seq2 (seq2 (seq2 (seq2 C4)))))))
noncomputable def q4_7 : Code := (seq1 (condA (seq2 (seq1 (seq2 (seq2 (seq2 (seq2 (seq2 C4)))))))))
noncomputable def q4_8 : Code := (seq1 (seq2 (seq2 (seq2 (seq2 (seq2 (seq2 C4)))))))
noncomputable def q4_9 : Code := (seq1 (seq1 (seq2 (seq2 (seq2 (seq2 (seq2 (seq2 (seq2 C4)))))))))
noncomputable def q4_10 : Code := (seq1 (seq1 (loopC (blockC (seq2 (seq1 (seq2 (seq2 (seq2 (seq2 (seq2 (seq2 (seq2 C4)))))))))))))
noncomputable def q4_12 : Code := (blockC (seq1 (seq2 (loopC (blockC (seq2 (seq1 (seq2 (seq2 (seq2 (seq2 (seq2 (seq2 (seq2 C4))))))))))))))
noncomputable def q4_11 : Code := (seq2 (seq2 (loopC (blockC (seq2 (seq1 (seq2 (seq2 (seq2 (seq2 (seq2 (seq2 (seq2 C4)))))))))))))
noncomputable def q4_13 : Code := (seq1 (seq1 (seq2 (seq2 (seq2 (seq2 (seq2 (seq2 (seq2 (seq2 C4))))))))))
noncomputable def q4_14 : Code := (seq1 (seq1 (loopC (blockC (seq2 (seq1 (seq2 (seq2 (seq2 (seq2 (seq2 (seq2 (seq2 (seq2 C4))))))))))))))
noncomputable def q4_16 : Code := (seq1 (blockC (seq1 (seq2 (loopC (blockC (seq2 (seq1 (seq2 (seq2 (seq2 (seq2 (seq2 (seq2 (seq2 (seq2 C4))))))))))))))))
noncomputable def q4_17 : Code := (seq1 (seq1 (loopC (blockC (seq2 (blockC (seq1 (seq2 (loopC (blockC (seq2 (seq1 (seq2 (seq2 (seq2 (seq2 (seq2 (seq2 (seq2 (seq2 C4))))))))))))))))))))
noncomputable def q4_19 : Code := (seq1 (blockC (seq1 (seq2 (loopC (blockC (seq2 (blockC (seq1 (seq2 (loopC (blockC (seq2 (seq1 (seq2 (seq2 (seq2 (seq2 (seq2 (seq2 (seq2 (seq2 C4))))))))))))))))))))))
noncomputable def q4_20 : Code := (seq1 (seq2 (blockC (seq1 (seq2 (loopC (blockC (seq2 (blockC (seq1 (seq2 (loopC (blockC (seq2 (seq1 (seq2 (seq2 (seq2 (seq2 (seq2 (seq2 (seq2 (seq2 C4)))))))))))))))))))))))
noncomputable def q4_21 : Code := (condA (seq2 (seq2 (blockC (seq1 (seq2 (loopC (blockC (seq2 (blockC (seq1 (seq2 (loopC (blockC (seq2 (seq1 (seq2 (seq2 (seq2 (seq2 (seq2 (seq2 (seq2 (seq2 C4))))))))))))))))))))))))
noncomputable def q4_18 : Code := (seq2 (seq2 (loopC (blockC (seq2 (blockC (seq1 (seq2 (loopC (blockC (seq2 (seq1 (seq2 (seq2 (seq2 (seq2 (seq2 (seq2 (seq2 (seq2 C4))))))))))))))))))))
noncomputable def q4_15 : Code := (seq2 (seq2 (loopC (blockC (seq2 (seq1 (seq2 (seq2 (seq2 (seq2 (seq2 (seq2 (seq2 (seq2 C4))))))))))))))
noncomputable def q4_22 : Code := (seq1 (seq1 (seq2 (seq2 (seq2 (seq2 (seq2 (seq2 (seq2 (seq2 (seq2 C4)))))))))))
noncomputable def q4_23 : Code := (seq1 (seq1 (loopC (blockC (seq2 (seq1 (seq2 (seq2 (seq2 (seq2 (seq2 (seq2 (seq2 (seq2 (seq2 C4)))))))))))))))
noncomputable def q4_25 : Code := (seq1 (blockC (seq1 (seq2 (loopC (blockC (seq2 (seq1 (seq2 (seq2 (seq2 (seq2 (seq2 (seq2 (seq2 (seq2 (seq2 C4)))))))))))))))))
noncomputable def q4_26 : Code := (seq1 (seq1 (loopC (blockC (seq2 (blockC (seq1 (seq2 (loopC (blockC (seq2 (seq1 (seq2 (seq2 (seq2 (seq2 (seq2 (seq2 (seq2 (seq2 (seq2 C4)))))))))))))))))))))
noncomputable def q4_28 : Code := (seq1 (blockC (seq1 (seq2 (loopC (blockC (seq2 (blockC (seq1 (seq2 (loopC (blockC (seq2 (seq1 (seq2 (seq2 (seq2 (seq2 (seq2 (seq2 (seq2 (seq2 (seq2 C4)))))))))))))))))))))))
noncomputable def q4_29 : Code := (seq1 (seq1 (loopC (blockC (seq2 (blockC (seq1 (seq2 (loopC (blockC (seq2 (blockC (seq1 (seq2 (loopC (blockC (seq2 (seq1 (seq2 (seq2 (seq2 (seq2 (seq2 (seq2 (seq2 (seq2 (seq2 C4)))))))))))))))))))))))))))
noncomputable def q4_31 : Code := (blockC (seq1 (seq2 (loopC (blockC (seq2 (blockC (seq1 (seq2 (loopC (blockC (seq2 (blockC (seq1 (seq2 (loopC (blockC (seq2 (seq1 (seq2 (seq2 (seq2 (seq2 (seq2 (seq2 (seq2 (seq2 (seq2 C4))))))))))))))))))))))))))))
noncomputable def q4_30 : Code := (seq2 (seq2 (loopC (blockC (seq2 (blockC (seq1 (seq2 (loopC (blockC (seq2 (blockC (seq1 (seq2 (loopC (blockC (seq2 (seq1 (seq2 (seq2 (seq2 (seq2 (seq2 (seq2 (seq2 (seq2 (seq2 C4)))))))))))))))))))))))))))
noncomputable def q4_27 : Code := (seq2 (seq2 (loopC (blockC (seq2 (blockC (seq1 (seq2 (loopC (blockC (seq2 (seq1 (seq2 (seq2 (seq2 (seq2 (seq2 (seq2 (seq2 (seq2 (seq2 C4)))))))))))))))))))))
noncomputable def q4_24 : Code := (seq2 (seq2 (loopC (blockC (seq2 (seq1 (seq2 (seq2 (seq2 (seq2 (seq2 (seq2 (seq2 (seq2 (seq2 C4)))))))))))))))
noncomputable def q4_32 : Code := (seq1 (seq1 (seq2 (seq2 (seq2 (seq2 (seq2 (seq2 (seq2 (seq2 (seq2 (seq2 C4))))))))))))
noncomputable def q4_33 : Code := (seq1 (seq1 (loopC (blockC (seq2 (seq1 (seq2 (seq2 (seq2 (seq2 (seq2 (seq2 (seq2 (seq2 (seq2 (seq2 C4))))))))))))))))
noncomputable def q4_35 : Code := (seq1 (seq1 (blockC (seq1 (seq2 (loopC (blockC (seq2 (seq1 (seq2 (seq2 (seq2 (seq2 (seq2 (seq2 (seq2 (seq2 (seq2 (seq2 C4)))))))))))))))))))
noncomputable def q4_36 : Code := (seq1 (condA (seq2 (seq1 (blockC (seq1 (seq2 (loopC (blockC (seq2 (seq1 (seq2 (seq2 (seq2 (seq2 (seq2 (seq2 (seq2 (seq2 (seq2 (seq2 C4)))))))))))))))))))))
noncomputable def q4_37 : Code := (seq1 (seq2 (blockC (seq1 (seq2 (loopC (blockC (seq2 (seq1 (seq2 (seq2 (seq2 (seq2 (seq2 (seq2 (seq2 (seq2 (seq2 (seq2 C4)))))))))))))))))))
noncomputable def q4_38 : Code := (seq1 (seq1 (loopC (blockC (seq2 (seq2 (blockC (seq1 (seq2 (loopC (blockC (seq2 (seq1 (seq2 (seq2 (seq2 (seq2 (seq2 (seq2 (seq2 (seq2 (seq2 (seq2 C4)))))))))))))))))))))))
noncomputable def q4_40 : Code := (seq1 (blockC (seq1 (seq2 (loopC (blockC (seq2 (seq2 (blockC (seq1 (seq2 (loopC (blockC (seq2 (seq1 (seq2 (seq2 (seq2 (seq2 (seq2 (seq2 (seq2 (seq2 (seq2 (seq2 C4)))))))))))))))))))))))))
noncomputable def q4_41 : Code := (seq1 (seq2 (blockC (seq1 (seq2 (loopC (blockC (seq2 (seq2 (blockC (seq1 (seq2 (loopC (blockC (seq2 (seq1 (seq2 (seq2 (seq2 (seq2 (seq2 (seq2 (seq2 (seq2 (seq2 (seq2 C4))))))))))))))))))))))))))
noncomputable def q4_42 : Code := (seq1 (condA (seq2 (seq2 (blockC (seq1 (seq2 (loopC (blockC (seq2 (seq2 (blockC (seq1 (seq2 (loopC (blockC (seq2 (seq1 (seq2 (seq2 (seq2 (seq2 (seq2 (seq2 (seq2 (seq2 (seq2 (seq2 C4))))))))))))))))))))))))))))
noncomputable def q4_39 : Code := (seq2 (seq2 (loopC (blockC (seq2 (seq2 (blockC (seq1 (seq2 (loopC (blockC (seq2 (seq1 (seq2 (seq2 (seq2 (seq2 (seq2 (seq2 (seq2 (seq2 (seq2 (seq2 C4)))))))))))))))))))))))
noncomputable def q4_34 : Code := (seq2 (seq2 (loopC (blockC (seq2 (seq1 (seq2 (seq2 (seq2 (seq2 (seq2 (seq2 (seq2 (seq2 (seq2 (seq2 C4))))))))))))))))
noncomputable def q4_43 : Code := (seq1 (seq2 (seq2 (seq2 (seq2 (seq2 (seq2 (seq2 (seq2 (seq2 (seq2 (seq2 C4))))))))))))
noncomputable def q4_44 : Code := (seq1 (seq2 (seq2 (seq2 (seq2 (seq2 (seq2 (seq2 (seq2 (seq2 (seq2 (seq2 (seq2 C4)))))))))))))
noncomputable def q4_45 : Code := (seq1 (seq1 (seq2 (seq2 (seq2 (seq2 (seq2 (seq2 (seq2 (seq2 (seq2 (seq2 (seq2 (seq2 (seq2 C4)))))))))))))))
noncomputable def q4_46 : Code := (seq1 (seq1 (loopC (blockC (seq2 (seq1 (seq2 (seq2 (seq2 (seq2 (seq2 (seq2 (seq2 (seq2 (seq2 (seq2 (seq2 (seq2 (seq2 C4)))))))))))))))))))
noncomputable def q4_48 : Code := (seq1 (blockC (seq1 (seq2 (loopC (blockC (seq2 (seq1 (seq2 (seq2 (seq2 (seq2 (seq2 (seq2 (seq2 (seq2 (seq2 (seq2 (seq2 (seq2 (seq2 C4)))))))))))))))))))))
noncomputable def q4_49 : Code := (seq1 (seq1 (seq2 (blockC (seq1 (seq2 (loopC (blockC (seq2 (seq1 (seq2 (seq2 (seq2 (seq2 (seq2 (seq2 (seq2 (seq2 (seq2 (seq2 (seq2 (seq2 (seq2 C4)))))))))))))))))))))))
noncomputable def q4_50 : Code := (seq1 (condA (seq2 (seq1 (seq2 (blockC (seq1 (seq2 (loopC (blockC (seq2 (seq1 (seq2 (seq2 (seq2 (seq2 (seq2 (seq2 (seq2 (seq2 (seq2 (seq2 (seq2 (seq2 (seq2 C4)))))))))))))))))))))))))
noncomputable def q4_51 : Code := (seq1 (seq2 (seq2 (blockC (seq1 (seq2 (loopC (blockC (seq2 (seq1 (seq2 (seq2 (seq2 (seq2 (seq2 (seq2 (seq2 (seq2 (seq2 (seq2 (seq2 (seq2 (seq2 C4)))))))))))))))))))))))
noncomputable def q4_52 : Code := (seq1 (seq1 (seq2 (seq2 (seq2 (blockC (seq1 (seq2 (loopC (blockC (seq2 (seq1 (seq2 (seq2 (seq2 (seq2 (seq2 (seq2 (seq2 (seq2 (seq2 (seq2 (seq2 (seq2 (seq2 C4)))))))))))))))))))))))))
noncomputable def q4_53 : Code := (condA (seq2 (seq1 (seq2 (seq2 (seq2 (blockC (seq1 (seq2 (loopC (blockC (seq2 (seq1 (seq2 (seq2 (seq2 (seq2 (seq2 (seq2 (seq2 (seq2 (seq2 (seq2 (seq2 (seq2 (seq2 C4))))))))))))))))))))))))))
noncomputable def q4_54 : Code := (seq1 (seq2 (seq2 (seq2 (seq2 (blockC (seq1 (seq2 (loopC (blockC (seq2 (seq1 (seq2 (seq2 (seq2 (seq2 (seq2 (seq2 (seq2 (seq2 (seq2 (seq2 (seq2 (seq2 (seq2 C4)))))))))))))))))))))))))
noncomputable def q4_55 : Code := (seq1 (condA (seq2 (seq2 (seq2 (seq2 (seq2 (blockC (seq1 (seq2 (loopC (blockC (seq2 (seq1 (seq2 (seq2 (seq2 (seq2 (seq2 (seq2 (seq2 (seq2 (seq2 (seq2 (seq2 (seq2 (seq2 C4)))))))))))))))))))))))))))
noncomputable def q4_47 : Code := (seq2 (seq2 (loopC (blockC (seq2 (seq1 (seq2 (seq2 (seq2 (seq2 (seq2 (seq2 (seq2 (seq2 (seq2 (seq2 (seq2 (seq2 (seq2 C4)))))))))))))))))))
noncomputable def q4_56 : Code := (seq1 (seq2 (seq2 (seq2 (seq2 (seq2 (seq2 (seq2 (seq2 (seq2 (seq2 (seq2 (seq2 (seq2 (seq2 C4)))))))))))))))
noncomputable def K4_1 : Code := q4_12
noncomputable def K4_0 : Code := (.loop (.seq (.seq q4_10 (.cond ( .tmp 64 ) .skip (.exit 0))) (.seq (.block 1 K4_1) q4_11)))
noncomputable def K4_5 : Code := (.seq q4_19 (.seq q4_20 (.cond ( .tmp 96 ) q4_21 .skip)))
noncomputable def K4_4 : Code := (.loop (.seq (.seq q4_17 (.cond ( .tmp 84 ) .skip (.exit 4))) (.seq (.block 5 K4_5) q4_18)))
noncomputable def K4_3 : Code := (.seq q4_16 (.block 4 K4_4))
noncomputable def K4_2 : Code := (.loop (.seq (.seq q4_14 (.cond ( .tmp 75 ) .skip (.exit 2))) (.seq (.block 3 K4_3) q4_15)))
noncomputable def K4_11 : Code := q4_31
noncomputable def K4_10 : Code := (.loop (.seq (.seq q4_29 (.cond ( .tmp 121 ) .skip (.exit 10))) (.seq (.block 11 K4_11) q4_30)))
noncomputable def K4_9 : Code := (.seq q4_28 (.block 10 K4_10))
noncomputable def K4_8 : Code := (.loop (.seq (.seq q4_26 (.cond ( .tmp 116 ) .skip (.exit 8))) (.seq (.block 9 K4_9) q4_27)))
noncomputable def K4_7 : Code := (.seq q4_25 (.block 8 K4_8))
noncomputable def K4_6 : Code := (.loop (.seq (.seq q4_23 (.cond ( .tmp 111 ) .skip (.exit 6))) (.seq (.block 7 K4_7) q4_24)))
noncomputable def K4_15 : Code := (.seq q4_40 (.seq q4_41 (.cond ( .tmp 209 ) (.seq q4_42 .ret) .skip)))
noncomputable def K4_14 : Code := (.loop (.seq (.seq q4_38 (.cond ( .tmp 178 ) .skip (.exit 14))) (.seq (.block 15 K4_15) q4_39)))
noncomputable def K4_13 : Code := (.seq (.seq q4_35 (.cond ( .tmp 171 ) (.seq q4_36 .ret) .skip)) (.seq q4_37 (.block 14 K4_14)))
noncomputable def K4_12 : Code := (.loop (.seq (.seq q4_33 (.cond ( .tmp 158 ) .skip (.exit 12))) (.seq (.block 13 K4_13) q4_34)))
noncomputable def K4_17 : Code := (.seq q4_48 (.seq (.seq q4_49 (.cond ( .tmp 234 ) (.seq q4_50 .ret) .skip)) (.seq q4_51 (.seq (.seq q4_52 (.cond ( .tmp 244 ) q4_53 .skip)) (.seq q4_54 (.cond ( .tmp 261 ) (.seq q4_55 .ret) .skip))))))
noncomputable def K4_16 : Code := (.loop (.seq (.seq q4_46 (.cond ( .tmp 218 ) .skip (.exit 16))) (.seq (.block 17 K4_17) q4_47)))
theorem e4 : C4 = (.seq q4_0 (.seq q4_1 (.seq q4_2 (.seq q4_3 (.seq (.seq q4_4 (.cond ( .tmp 41 ) (.seq q4_5 .ret) .skip)) (.seq (.seq q4_6 (.cond ( .tmp 59 ) (.seq q4_7 .ret) .skip)) (.seq q4_8 (.seq (.seq q4_9 (.block 0 K4_0)) (.seq (.seq q4_13 (.block 2 K4_2)) (.seq (.seq q4_22 (.block 6 K4_6)) (.seq (.seq q4_32 (.block 12 K4_12)) (.seq q4_43 (.seq q4_44 (.seq (.seq q4_45 (.block 16 K4_16)) (.seq q4_56 .ret))))))))))))))) := by kernel_rfl

end Go.Proofs.Ytmmfjanbjheekaa.Gen

/- The law ChainTrue (4): its drawn pieces. (Made by wip/tools/mk4h.py.) -/
set_option linter.unusedSimpArgs false
set_option linter.unusedVariables false
namespace Go.Proofs.Ytmmfjanbjheekaa.Gen
open Go Go.Lift Go.Conc Go.RowKit

def Nrm (F : Act → World → Prop) : Exit → Act → World → Prop
  | .normal, a, w => F a w
  | _, _, _ => False
theorem wp_nrm {P : Program} {c : Code} {F : Act → World → Prop} {a : Act} {w : World} (h : c.wp P (Nrm F) a w) : c.wp P (fun e a' w' => e = .normal ∧ F a' w') a w := wp_mono h fun e a w hq => by
  cases e <;> first | exact ⟨rfl, hq⟩ | exact hq.elim
end Go.Proofs.Ytmmfjanbjheekaa.Gen
