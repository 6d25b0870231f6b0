"""oneservesall: answers about many that tell little about one."""
