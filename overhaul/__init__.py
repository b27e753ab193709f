"""Craft on one water: who lies ahead of whom, and who passes whom when."""
