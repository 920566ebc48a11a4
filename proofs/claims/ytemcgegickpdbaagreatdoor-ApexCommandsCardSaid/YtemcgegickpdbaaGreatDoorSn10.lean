/-  -/
import Derived.Deep.CutBlock
import Derived.BigQuiet
import Derived.Test.YtemcgegickpdbaaGreatDoorSn09

