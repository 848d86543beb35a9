"""Cut plans for ice: which pieces come from which stick, with the least ice lost."""
