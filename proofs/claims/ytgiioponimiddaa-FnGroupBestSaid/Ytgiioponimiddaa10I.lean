/- The program's VisitsOk, TourWay, ShortTour, ShortWay. -/
import Derived.Test.Ytgiioponimiddaa10K
