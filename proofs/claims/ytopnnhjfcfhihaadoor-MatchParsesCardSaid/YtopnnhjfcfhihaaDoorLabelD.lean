/-
  Layer 4 (label): what the document's own Check and Print return; all that was in memory stays.
-/
import Derived.Test.YtopnnhjfcfhihaaDoorLabelV2
import Derived.Test.YtopnnhjfcfhihaaDoorLabelForm
import Derived.Test.YtopnnhjfcfhihaaDoorLabelMem
import Derived.Test.YtopnnhjfcfhihaaDoorLabelR
namespace Go.Proofs.YtopnnhjfcfhihaaDoor
open Go.RowKit Go.Deep
attribute [local go_sem] str_size str_append str_toList str_get str_extract
set_option linter.unusedVariables false
set_option linter.unusedSimpArgs false
end Go.Proofs.YtopnnhjfcfhihaaDoor
