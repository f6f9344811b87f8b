"""Macroasm: an assembler with macros and forward references."""
