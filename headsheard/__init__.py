"""headsheard: count the houses of a nameless network that is new in each round."""
