"""Things told by tables, and how many hands can agree by them."""
