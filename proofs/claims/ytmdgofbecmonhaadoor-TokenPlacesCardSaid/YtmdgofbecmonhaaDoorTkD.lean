/- The developers' functions of texts, all but Format, and the reference's: this text gathers them. -/
import Derived.Test.YtmdgofbecmonhaaDoorTk6
import Derived.Test.YtmdgofbecmonhaaDoorTk7
import Derived.Test.YtmdgofbecmonhaaDoorTk8
import Derived.Test.YtmdgofbecmonhaaDoorTkG
import Derived.Test.YtmdgofbecmonhaaDoorTkH
import Derived.Test.YtmdgofbecmonhaaDoorTkN
