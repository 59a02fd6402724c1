"""A court for claims about nets, with papers for and against."""
