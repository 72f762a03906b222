"""The tests of lateclasses."""
