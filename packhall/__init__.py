"""Packhall: packed texts that are read, sought and counted as they lie."""
