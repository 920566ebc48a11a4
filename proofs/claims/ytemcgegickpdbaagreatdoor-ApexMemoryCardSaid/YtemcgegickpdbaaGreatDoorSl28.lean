/-  -/
import Derived.Test.YtemcgegickpdbaaGreatDoorSl02

