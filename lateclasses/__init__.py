"""Lateclasses: a machine that loads classes as late as possible."""
