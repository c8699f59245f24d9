"""Books of tonnes over cuts: see tonnebook.desk.answers."""
