/- The developers' functions of texts, all but Format, and the reference's: this text gathers them. -/
import Derived.Test.YtnahlpeckfcciaaDoorTk6
import Derived.Test.YtnahlpeckfcciaaDoorTk7
import Derived.Test.YtnahlpeckfcciaaDoorTk8
import Derived.Test.YtnahlpeckfcciaaDoorTkG
import Derived.Test.YtnahlpeckfcciaaDoorTkH
import Derived.Test.YtnahlpeckfcciaaDoorTkN
