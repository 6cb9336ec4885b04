/- The developers' Split and the reference's: this text gathers them. (For chapter 6's own seat: XTkDall in its place.) -/
import Derived.Test.YtnahlpeckfcciaaDoorTk8
import Derived.Test.YtnahlpeckfcciaaDoorTkN
