/- The developers' functions of chapter 7: this text gathers them. -/
import Derived.Test.YtnahlpeckfcciaaDoorSyP
import Derived.Test.YtnahlpeckfcciaaDoorSyU
