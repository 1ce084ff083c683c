/- The program's VisitsOk, TourWay, ShortTour, ShortWay. -/
import Derived.Test.Ytdpajnpnpgmpkaa10K
