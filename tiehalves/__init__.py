"""Tiehalves: the ties of a web coloured so that each colour is as often at each place, or one more."""
