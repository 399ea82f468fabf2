"""The tests of tiehalves."""
