"""Tasks on one loop whose works take any time: exact answers for all runs of a program."""
